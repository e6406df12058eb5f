/- Rack: RackOrder's walk. -/
import Derived.Test.YtbilkelbelimjaaKJ
namespace Go.Proofs.Ytbilkelbelimjaa.S
open Go.RowKit
set_option maxRecDepth 20000

def tx (x : Nat) : ByteArray := ⟨#[UInt8.ofNat x, UInt8.ofNat (x / 256)]⟩
def okN (x : Nat) : Prop := 1 ≤ x ∧ x ≤ 2147483647
theorem conv2 (x : Nat) (w : World) : (convert 51 9 (.slice (some ⟨w.heap.size, 0, none⟩) 2 2)).run Try.prog (w.alloc (.cells #[.int .u8 ((x : Int) % 256), .int .u8 ((x : Int) / 256 % 256)] 5)) = .ok (.string (tx x)) (w.alloc (.cells #[.int .u8 ((x : Int) % 256), .int .u8 ((x : Int) / 256 % 256)] 5)) := by
  refine run_convert_bytes_back _ 51 9 5 ⟨w.heap.size, 0, none⟩ 2 [UInt8.ofNat x, UInt8.ofNat (x / 256)] Try.underlying51 Try.underlying5 Try.underlying9 fun j hj => ?_
  have hh := heap_alloc_new w (.cells #[.int .u8 ((x : Int) % 256), .int .u8 ((x : Int) / 256 % 256)] 5)
  have h0 := cell_of_row _ w.heap.size 0 _ _ _ hh
  have h1 := cell_of_row _ w.heap.size 1 _ _ _ hh
  rcases j with _ | _ | j
  · rw [Addr.add_lit]
    refine h0.trans ?_
    simp
  · rw [Addr.add_lit]
    refine h1.trans ?_
    simp
  · simp at hj
    omega
theorem grow_mem {ids ids' : List Nat} {k x : Nat} {f : Nat → Option Nat} (hM : ∀ a, a ∈ ids ↔ ∃ j, j < k ∧ f j = some a ∧ okN a) (hx : f k = some x) (hm : ∀ y, y ∈ ids' ↔ y ∈ ids ∨ (y = x ∧ 1 ≤ x ∧ x ≤ 2147483647)) : ∀ a, a ∈ ids' ↔ ∃ j, j < k + 1 ∧ f j = some a ∧ okN a := fun a => by
  rw [hm, hM]
  constructor
  · rintro (⟨j, hj, h1, h2⟩ | ⟨rfl, h⟩)
    · exact ⟨j, by omega, h1, h2⟩
    · exact ⟨k, by omega, hx, h⟩
  · rintro ⟨j, hj, h1, h2⟩
    by_cases hjk : j = k
    · subst hjk
      rw [hx] at h1
      injection h1 with h1
      subst h1
      exact .inr ⟨rfl, h2⟩
    · exact .inl ⟨j, by omega, h1, h2⟩
theorem round_mem {l : List Nat} {n y : Nat} {ida idb : List Nat} (hA : ∀ a, a ∈ ida ↔ ∃ j, j < n ∧ l[j]? = some a ∧ okN a) (hB : ∀ a, a ∈ idb ↔ ∃ j, j < n ∧ l[(j + y) % n]? = some a ∧ okN a) (a : Nat) : a ∈ ida ↔ a ∈ idb := by
  rw [hA, hB]
  constructor
  · rintro ⟨j, hj, h1, h2⟩
    have hm : y % n < n := Nat.mod_lt _ (by omega)
    by_cases hc : y % n ≤ j
    · refine ⟨j - y % n, by omega, ?_, h2⟩
      rw [Nat.add_mod, Nat.mod_eq_of_lt (a := j - y % n) (by omega), show j - y % n + y % n = j by omega, Nat.mod_eq_of_lt hj]
      exact h1
    · refine ⟨j + n - y % n, by omega, ?_, h2⟩
      rw [Nat.add_mod, Nat.mod_eq_of_lt (a := j + n - y % n) (by omega), show j + n - y % n + y % n = j + n by omega, Nat.add_mod_right, Nat.mod_eq_of_lt hj]
      exact h1
  · rintro ⟨j, hj, h1, h2⟩
    exact ⟨(j + y) % n, Nat.mod_lt _ (by omega), h1, h2⟩
set_option linter.unusedSimpArgs false in
set_option maxHeartbeats 20000000 in
theorem rorder_walk (u : Option Addr × Nat) (l : List Nat) (y : Nat) (w : World) (hs : S32 w (.slice u.1 l.length u.2) l) (hl : l.length ≤ 9223372036854775807) (hb : ∀ x ∈ l, x < 4294967296) (hy : y ≤ 255) :
    Calls Try.prog 4 #[.slice u.1 l.length u.2, .int .u8 (y : Int)] w fun r w' => r = .returned (.bool true) ∧ Below w.heap.size w w' := by
  obtain ⟨A, c⟩ := u
  obtain ⟨A', c', e, hs⟩ := hs
  injection e with e1 _ e3
  subst e1 e3
  obtain ⟨n, hn⟩ : ∃ n, n = l.length := ⟨_, rfl⟩
  simp only
  rw [← hn] at hs hl ⊢
  have HS := Lib.hid hs
  have HN := Lib.hid hn
  have HBD := Lib.hid hb
  clear hs hn hb
  by_cases h1 : 40 < n
  · have t : decide ((n : Int) > 40) = true := by rw [decide_eq_true_iff]; omega
    go_enter Try.func4, Try.ntmps4
    go_wp2
    go_ret
    exact ⟨rfl, Below.refl _ _⟩
  have t1 : decide ((n : Int) > 40) = false := by rw [decide_eq_false_iff_not]; omega
  have HNEW := Lib.hid (new_any 40 w)
  rw [show max (40 : Int) 0 = 40 by decide] at HNEW
  obtain ⟨R, hR⟩ : ∃ R, R = w.heap.size := ⟨_, rfl⟩
  rw [← hR] at HNEW
  have HR := Lib.hid hR
  clear hR
  go_enter Try.func4, Try.ntmps4
  go_wp2_with fail
  refine HNEW.out.mono ?_
  rintro r w1 ⟨rfl, h1', hb1⟩
  have HNEW2 := Lib.hid (new_any 40 w1)
  rw [show max (40 : Int) 0 = 40 by decide] at HNEW2
  obtain ⟨R2, hR2⟩ : ∃ R, R = w1.heap.size := ⟨_, rfl⟩
  rw [← hR2] at HNEW2
  have HR2 := Lib.hid hR2
  have HRR : Hid (R < R2) := by rw [hR2]; exact lt_of_block h1'.row
  have HI1 := Lib.hid h1'
  have HB1 : Hid (Below w.heap.size w w1) := by rw [← HR.out]; exact hb1
  clear h1' hb1 t1 hR2
  go_wp2_with fail
  refine HNEW2.out.mono ?_
  rintro r w2 ⟨rfl, h2', hb2⟩
  have HA2 : Hid (IsR w2 R 40 (.slice none 0 0) (.slice none 0 0) [] []) := HI1.out.after (by rw [← HR2.out]; exact hb2)
  have HI2 := Lib.hid h2'
  have HB2 : Hid (Below w.heap.size w w2) := HB1.out.trans (Below.mono (by rw [← HR2.out]; exact hb2) HB1.out.size)
  clear h2' hb2
  go_wp2_with fail
  go_loopw [8] (fun v wr => ∃ (k : Nat) (via vta vib vtb : Value) (ida idb : List Nat), k ≤ n ∧ v = .int .i64 (k : Int) ∧ ida.length ≤ k ∧ idb.length ≤ k ∧ Hid (IsR wr R 40 via vta ida (ida.map tx)) ∧ Hid (IsR wr R2 40 vib vtb idb (idb.map tx)) ∧ Hid (Apart R via vta R2 vib vtb) ∧ Hid (Below w.heap.size w wr) ∧ Hid (∀ a, a ∈ ida ↔ ∃ j, j < k ∧ l[j]? = some a ∧ okN a) ∧ Hid (∀ a, a ∈ idb ↔ ∃ j, j < k ∧ l[(j + y) % n]? = some a ∧ okN a)) (fun v _ => n - (intOf v).toNat)
  case atStart =>
    refine ⟨0, _, _, _, _, [], [], by omega, rfl, by simp, by simp, HA2.out, HI2.out, ?_, HB2.out, fun a => by simp, fun a => by simp⟩
    rintro g (rfl | hg | hg) (hg2 | hg2 | hg2)
    · have := HRR.out
      omega
    all_goals first | cases hg | cases hg2
  case round =>
    obtain ⟨k, via, vta, vib, vtb, ida, idb, hk, rfl, hka, hkb, HIA, HIB, HAP, HB, HMA, HMB⟩ := hrel
    by_cases hlt : k < n
    · obtain ⟨x, hx⟩ : ∃ x, l[k]? = some x := ⟨l[k]'(by rw [← HN.out]; exact hlt), List.getElem?_eq_getElem _⟩
      obtain ⟨q, hq⟩ : ∃ q, q = (k + y) % n := ⟨_, rfl⟩
      have hqn : q < n := by rw [hq]; exact Nat.mod_lt _ (by omega)
      obtain ⟨z, hz⟩ : ∃ z, l[q]? = some z := ⟨l[q]'(by rw [← HN.out]; exact hqn), List.getElem?_eq_getElem _⟩
      obtain ⟨b1, o1, rfl, hb1, ha1⟩ := HS.out (by omega)
      have HX : Hid (∀ W, Below w.heap.size w W → W.cell? ⟨b1, o1 + k, none⟩ = some (.int .u32 (x : Int))) := fun W hW => (hW.cell (p := ⟨b1, _, none⟩) hb1).trans (ha1 k x hx)
      have HZ : Hid (∀ W, Below w.heap.size w W → W.cell? ⟨b1, o1 + q, none⟩ = some (.int .u32 (z : Int))) := fun W hW => (hW.cell (p := ⟨b1, _, none⟩) hb1).trans (ha1 q z hz)
      have HXL := Lib.hid hx
      have HZL := Lib.hid hz
      have HQ := Lib.hid hq
      have hxb := HBD.out x (List.mem_of_getElem? hx)
      have hzb := HBD.out z (List.mem_of_getElem? hz)
      have hn0 : ¬ n = 0 := by omega
      have hcv : IntKind.i64.wrap (y : Int) = (y : Int) := by rw [IntKind.wrap_i64]; omega
      have hadd : IntKind.i64.wrap ((k : Int) + (y : Int)) = (k : Int) + (y : Int) := by rw [IntKind.wrap_i64]; omega
      have hrem : ((k : Int) + (y : Int)).tmod (n : Int) = (q : Int) := by rw [hq, Int.tmod_eq_emod_of_nonneg (by omega)]; push_cast; try rfl
      have hwq : IntKind.i64.wrap (q : Int) = (q : Int) := by rw [IntKind.wrap_i64]; omega
      clear hx hz ha1 hb1 hq
      have HBr : Hid (Below wr.heap.size wr wr) := Below.refl _ _
      go_upto_region 8 with (fail)
      have HDp : Hid (Below wr.heap.size wr wr.drew) := HBr.out.drew
      refine wp_region_held_drew (S := fun W : World => W.cell? ⟨b1, o1 + k, none⟩ = some (.int .u32 (x : Int)) ∧ W.cell? ⟨b1, o1 + q, none⟩ = some (.int .u32 (z : Int))) (by kernel_rfl) (⟨HX.out _ (HB.out.trans ((HDp.out).mono HB.out.size)), HZ.out _ (HB.out.trans ((HDp.out).mono HB.out.size))⟩) (fun hHeld => ?_)
      obtain ⟨Wp0, hW0⟩ : ∃ W0, W0 = wr.drew := ⟨_, rfl⟩
      rw [← hW0] at hHeld HDp ⊢
      clear hW0
      refine wpAnyH_take (i := 0) (oi := ?oi0p) (v := ?v0p) ?hi0p ?hs0p ?hf0p ?hr0p ?hQ0p ?hy0p ?hS0p ?h0p
      case hi0p => exact (by simp only [List.getElem?_toArray, List.getElem?_cons_zero]; rfl)
      case hs0p => kernel_rfl
      case hf0p => kernel_rfl
      case hr0p => kernel_rfl
      case hQ0p => exact fun _ _ _ h => h
      case hy0p =>
        refine Or.inl ⟨rfl, ?_⟩
        intro W hSw
        obtain ⟨y0, y1⟩ := hSw
        go_simp
        try with_reducible rfl
      case hS0p => assumption
      try simp only [Act.put, List.setIfInBounds_toArray, List.set_cons_zero, List.set_cons_succ]
      refine wpAnyH_take (i := 1) (oi := ?oi1p) (v := ?v1p) ?hi1p ?hs1p ?hf1p ?hr1p ?hQ1p ?hy1p ?hS1p ?h1p
      case hi1p => exact (by simp only [List.getElem?_toArray, List.getElem?_cons_succ, List.getElem?_cons_zero]; rfl)
      case hs1p => kernel_rfl
      case hf1p => kernel_rfl
      case hr1p => kernel_rfl
      case hQ1p => exact fun _ _ _ h => h
      case hy1p =>
        refine Or.inl ⟨rfl, ?_⟩
        intro W hSw
        obtain ⟨y0, y1⟩ := hSw
        go_simp
        try with_reducible rfl
      case hS1p => assumption
      try simp only [Act.put, List.setIfInBounds_toArray, List.set_cons_zero, List.set_cons_succ]
      refine wpAnyH_take (i := 2) (oi := ?oi2p) (v := ?v2p) ?hi2p ?hs2p ?hf2p ?hr2p ?hQ2p ?hy2p ?hS2p ?h2p
      case hi2p => exact (by simp only [List.getElem?_toArray, List.getElem?_cons_succ, List.getElem?_cons_zero]; rfl)
      case hs2p => kernel_rfl
      case hf2p => kernel_rfl
      case hr2p => kernel_rfl
      case hQ2p => exact fun _ _ _ h => h
      case hy2p =>
        refine Or.inl ⟨rfl, ?_⟩
        intro W hSw
        obtain ⟨y0, y1⟩ := hSw
        go_simp
        try with_reducible rfl
      case hS2p => assumption
      try simp only [Act.put, List.setIfInBounds_toArray, List.set_cons_zero, List.set_cons_succ]
      refine wpAnyH_take (i := 3) (oi := ?oi3p) (v := ?v3p) ?hi3p ?hs3p ?hf3p ?hr3p ?hQ3p ?hy3p ?hS3p ?h3p
      case hi3p => exact (by simp only [List.getElem?_toArray, List.getElem?_cons_succ, List.getElem?_cons_zero]; rfl)
      case hs3p => kernel_rfl
      case hf3p => kernel_rfl
      case hr3p => kernel_rfl
      case hQ3p => exact fun _ _ _ h => h
      case hy3p =>
        refine Or.inl ⟨rfl, ?_⟩
        intro W hSw
        obtain ⟨y0, y1⟩ := hSw
        go_simp
        try with_reducible rfl
      case hS3p => assumption
      try simp only [Act.put, List.setIfInBounds_toArray, List.set_cons_zero, List.set_cons_succ]
      refine wpAnyH_take (i := 4) (oi := ?oi4p) (v := ?v4p) ?hi4p ?hs4p ?hf4p ?hr4p ?hQ4p ?hy4p ?hS4p ?h4p
      case hi4p => exact (by simp only [List.getElem?_toArray, List.getElem?_cons_succ, List.getElem?_cons_zero]; rfl)
      case hs4p => kernel_rfl
      case hf4p => kernel_rfl
      case hr4p => kernel_rfl
      case hQ4p => exact fun _ _ _ h => h
      case hy4p =>
        refine Or.inl ⟨rfl, ?_⟩
        intro W hSw
        obtain ⟨y0, y1⟩ := hSw
        go_simp
        try with_reducible rfl
      case hS4p => assumption
      try simp only [Act.put, List.setIfInBounds_toArray, List.set_cons_zero, List.set_cons_succ]
      refine wpAnyH_take (i := 5) (oi := ?oi5p) (v := ?v5p) ?hi5p ?hs5p ?hf5p ?hr5p ?hQ5p ?hy5p ?hS5p ?h5p
      case hi5p => exact (by simp only [List.getElem?_toArray, List.getElem?_cons_succ, List.getElem?_cons_zero]; rfl)
      case hs5p => kernel_rfl
      case hf5p => kernel_rfl
      case hr5p => kernel_rfl
      case hQ5p => exact fun _ _ _ h => h
      case hy5p =>
        refine Or.inl ⟨rfl, ?_⟩
        intro W hSw
        obtain ⟨y0, y1⟩ := hSw
        go_simp
        try with_reducible rfl
      case hS5p => assumption
      try simp only [Act.put, List.setIfInBounds_toArray, List.set_cons_zero, List.set_cons_succ]
      refine wpAnyH_take (i := 6) (oi := ?oi6p) (v := ?v6p) ?hi6p ?hs6p ?hf6p ?hr6p ?hQ6p ?hy6p ?hS6p ?h6p
      case hi6p => exact (by simp only [List.getElem?_toArray, List.getElem?_cons_succ, List.getElem?_cons_zero]; rfl)
      case hs6p => kernel_rfl
      case hf6p => kernel_rfl
      case hr6p => kernel_rfl
      case hQ6p => exact fun _ _ _ h => h
      case hy6p =>
        refine Or.inl ⟨rfl, ?_⟩
        intro W hSw
        obtain ⟨y0, y1⟩ := hSw
        go_simp
        try with_reducible rfl
      case hS6p => assumption
      try simp only [Act.put, List.setIfInBounds_toArray, List.set_cons_zero, List.set_cons_succ]
      refine wpAnyH_take (i := 7) (oi := ?oi7p) (v := ?v7p) ?hi7p ?hs7p ?hf7p ?hr7p ?hQ7p ?hy7p ?hS7p ?h7p
      case hi7p => exact (by simp only [List.getElem?_toArray, List.getElem?_cons_succ, List.getElem?_cons_zero]; rfl)
      case hs7p => kernel_rfl
      case hf7p => kernel_rfl
      case hr7p => kernel_rfl
      case hQ7p => exact fun _ _ _ h => h
      case hy7p =>
        refine Or.inl ⟨rfl, ?_⟩
        intro W hSw
        obtain ⟨y0, y1⟩ := hSw
        go_simp
        try with_reducible rfl
      case hS7p => assumption
      try simp only [Act.put, List.setIfInBounds_toArray, List.set_cons_zero, List.set_cons_succ]
      refine wpAnyH_take (i := 8) (oi := ?oi8p) (v := ?v8p) ?hi8p ?hs8p ?hf8p ?hr8p ?hQ8p ?hy8p ?hS8p ?h8p
      case hi8p => exact (by simp only [List.getElem?_toArray, List.getElem?_cons_succ, List.getElem?_cons_zero]; rfl)
      case hs8p => kernel_rfl
      case hf8p => kernel_rfl
      case hr8p => kernel_rfl
      case hQ8p => exact fun _ _ _ h => h
      case hy8p =>
        refine Or.inl ⟨rfl, ?_⟩
        intro W hSw
        obtain ⟨y0, y1⟩ := hSw
        go_simp
        try with_reducible rfl
      case hS8p => assumption
      try simp only [Act.put, List.setIfInBounds_toArray, List.set_cons_zero, List.set_cons_succ]
      refine wpAnyH_take (i := 9) (oi := ?oi9p) (v := ?v9p) ?hi9p ?hs9p ?hf9p ?hr9p ?hQ9p ?hy9p ?hS9p ?h9p
      case hi9p => exact (by simp only [List.getElem?_toArray, List.getElem?_cons_succ, List.getElem?_cons_zero]; rfl)
      case hs9p => kernel_rfl
      case hf9p => kernel_rfl
      case hr9p => kernel_rfl
      case hQ9p => exact fun _ _ _ h => h
      case hy9p =>
        refine Or.inl ⟨rfl, ?_⟩
        intro W hSw
        obtain ⟨y0, y1⟩ := hSw
        go_simp
        try with_reducible rfl
      case hS9p => assumption
      try simp only [Act.put, List.setIfInBounds_toArray, List.set_cons_zero, List.set_cons_succ]
      refine wpAnyH_take (i := 10) (oi := ?oi10p) (v := ?v10p) ?hi10p ?hs10p ?hf10p ?hr10p ?hQ10p ?hy10p ?hS10p ?h10p
      case hi10p => exact (by simp only [List.getElem?_toArray, List.getElem?_cons_succ, List.getElem?_cons_zero]; rfl)
      case hs10p => kernel_rfl
      case hf10p => kernel_rfl
      case hr10p => kernel_rfl
      case hQ10p => exact fun _ _ _ h => h
      case hy10p =>
        refine Or.inl ⟨rfl, ?_⟩
        intro W hSw
        obtain ⟨y0, y1⟩ := hSw
        go_simp
        try with_reducible rfl
      case hS10p => assumption
      try simp only [Act.put, List.setIfInBounds_toArray, List.set_cons_zero, List.set_cons_succ]
      refine wpAnyH_take (i := 11) (oi := ?oi11p) (v := ?v11p) ?hi11p ?hs11p ?hf11p ?hr11p ?hQ11p ?hy11p ?hS11p ?h11p
      case hi11p => exact (by simp only [List.getElem?_toArray, List.getElem?_cons_succ, List.getElem?_cons_zero]; rfl)
      case hs11p => kernel_rfl
      case hf11p => kernel_rfl
      case hr11p => kernel_rfl
      case hQ11p => exact fun _ _ _ h => h
      case hy11p =>
        refine Or.inl ⟨rfl, ?_⟩
        intro W hSw
        obtain ⟨y0, y1⟩ := hSw
        go_simp
        try with_reducible rfl
      case hS11p => assumption
      try simp only [Act.put, List.setIfInBounds_toArray, List.set_cons_zero, List.set_cons_succ]
      refine wpAnyH_take (i := 12) (oi := ?oi12p) (v := ?v12p) ?hi12p ?hs12p ?hf12p ?hr12p ?hQ12p ?hy12p ?hS12p ?h12p
      case hi12p => exact (by simp only [List.getElem?_toArray, List.getElem?_cons_succ, List.getElem?_cons_zero]; rfl)
      case hs12p => kernel_rfl
      case hf12p => kernel_rfl
      case hr12p => kernel_rfl
      case hQ12p => exact fun _ _ _ h => h
      case hy12p =>
        refine Or.inl ⟨rfl, ?_⟩
        intro W hSw
        obtain ⟨y0, y1⟩ := hSw
        go_simp
        try with_reducible rfl
      case hS12p => assumption
      try simp only [Act.put, List.setIfInBounds_toArray, List.set_cons_zero, List.set_cons_succ]
      refine wpAnyH_take (i := 13) (oi := ?oi13p) (v := ?v13p) ?hi13p ?hs13p ?hf13p ?hr13p ?hQ13p ?hy13p ?hS13p ?h13p
      case hi13p => exact (by simp only [List.getElem?_toArray, List.getElem?_cons_succ, List.getElem?_cons_zero]; rfl)
      case hs13p => kernel_rfl
      case hf13p => kernel_rfl
      case hr13p => kernel_rfl
      case hQ13p => exact fun _ _ _ h => h
      case hy13p =>
        refine Or.inl ⟨rfl, ?_⟩
        intro W hSw
        obtain ⟨y0, y1⟩ := hSw
        go_simp
        try with_reducible rfl
      case hS13p => assumption
      try simp only [Act.put, List.setIfInBounds_toArray, List.set_cons_zero, List.set_cons_succ]
      refine wpAnyH_take (i := 14) (oi := ?oi14p) (v := ?v14p) ?hi14p ?hs14p ?hf14p ?hr14p ?hQ14p ?hy14p ?hS14p ?h14p
      case hi14p => exact (by simp only [List.getElem?_toArray, List.getElem?_cons_succ, List.getElem?_cons_zero]; rfl)
      case hs14p => kernel_rfl
      case hf14p => kernel_rfl
      case hr14p => kernel_rfl
      case hQ14p => exact fun _ _ _ h => h
      case hy14p =>
        refine Or.inl ⟨rfl, ?_⟩
        intro W hSw
        obtain ⟨y0, y1⟩ := hSw
        go_simp
        try with_reducible rfl
      case hS14p => assumption
      try simp only [Act.put, List.setIfInBounds_toArray, List.set_cons_zero, List.set_cons_succ]
      refine wpAnyH_done (by kernel_rfl) ?_ _
      clear hcv hadd hrem hwq hn0
      have hC1 := conv2 x Wp0
      obtain ⟨w3, hw3⟩ : ∃ w3, w3 = Wp0.alloc (.cells #[.int .u8 ((x : Int) % 256), .int .u8 ((x : Int) / 256 % 256)] 5) := ⟨_, rfl⟩
      have hb3 : Below wr.heap.size wr w3 := by rw [hw3]; exact HDp.out.alloc (HDp.out.size) _
      rw [← hw3] at hC1
      have HA3 := Lib.hid (HIA.out.after hb3)
      have HB3 := Lib.hid (HIB.out.after hb3)
      have HW3 : Hid (Below w.heap.size w w3) := HB.out.trans (hb3.mono HB.out.size)
      have HPA := Lib.hid (put_set tx R via vta ida x w3 HA3.out (by omega))
      clear hb3
      go_wp2_with (rw [← hw3, hC1])
      clear hC1
      rw [← hw3]
      clear hw3
      refine HPA.out.mono ?_
      rintro r w4 ⟨⟨v, rfl⟩, hch, via', vta', ida', n1, n2, h4, hlen, hm⟩
      have HA4 := Lib.hid h4
      have HB4 := Lib.hid (HB3.out.kept hch HAP.out)
      have HAP4 := Lib.hid (HAP.out.step HB3.out n1 n2)
      have HW4 : Hid (Below w.heap.size w w4) := HW3.out.trans (by rw [← HR.out]; exact hch.1)
      have HMA4 := Lib.hid (grow_mem (f := fun j => l[j]?) HMA.out HXL.out hm)
      clear h4 n1 n2 hch hm HPA
      have hC2 := conv2 z w4
      obtain ⟨w5, hw5⟩ : ∃ w5, w5 = w4.alloc (.cells #[.int .u8 ((z : Int) % 256), .int .u8 ((z : Int) / 256 % 256)] 5) := ⟨_, rfl⟩
      have hb5 : Below w4.heap.size w4 w5 := by rw [hw5]; exact (Below.refl _ _).alloc (Nat.le_refl _) _
      rw [← hw5] at hC2
      have HA5 := Lib.hid (HA4.out.after hb5)
      have HB5 := Lib.hid (HB4.out.after hb5)
      have HW5 : Hid (Below w.heap.size w w5) := HW4.out.trans (hb5.mono HW4.out.size)
      have HPB := Lib.hid (put_set tx R2 vib vtb idb z w5 HB5.out (by omega))
      clear hb5
      go_wp2_with (rw [← hw5, hC2])
      clear hC2
      rw [← hw5]
      clear hw5
      refine HPB.out.mono ?_
      rintro r w6 ⟨⟨v, rfl⟩, hch, vib', vtb', idb', n1, n2, h6, hlenb, hm⟩
      have HB6 := Lib.hid h6
      have HA6 := Lib.hid (HA5.out.kept hch HAP4.out.symm)
      have HAP6 := Lib.hid (HAP4.out.symm.step HA5.out n1 n2).symm
      have HW6 : Hid (Below w.heap.size w w6) := HW5.out.trans (hch.1.mono (by have := HRR.out; have := HR.out; omega))
      have HMB6 := Lib.hid (grow_mem (f := fun j => l[(j + y) % n]?) HMB.out (show l[(k + y) % n]? = some z by rw [← HQ.out]; exact HZL.out) hm)
      clear h6 n1 n2 hch hm HPB
      go_wp2
      go_roundw
      case rel => exact ⟨k + 1, via', vta', vib', vtb', ida', idb', by omega, by go_num, by omega, by omega, HA6.out, HB6.out, HAP6.out, HW6.out, HMA4.out, HMB6.out⟩
      case measure => simp [intOf] <;> omega
    · have hkn : k = n := by omega
      subst hkn
      have he : idb = ida := up_ext HIB.out.up HIA.out.up fun a => (round_mem HMA.out HMB.out a).symm
      subst he
      clear HMA HMB hlt HAP
      obtain ⟨p, hp⟩ : ∃ p, p = idb.length := ⟨_, rfl⟩
      have HP := Lib.hid hp
      rw [← hp] at hka
      clear hp hkb
      go_wp2_with fail
      refine (ids_any R 40 via vta idb _ _ HIA.out (by have := HP.out; omega)).mono ?_
      rintro r w2 ⟨vl, rfl, hvl, hb2⟩
      have HA2 := Lib.hid (HIA.out.after hb2)
      have HBB2 := Lib.hid (HIB.out.after hb2)
      have HW2 : Hid (Below w.heap.size w w2) := HB.out.trans (hb2.mono HB.out.size)
      have HL2 := Lib.hid (S32.of_own hvl)
      obtain ⟨Al, cl, rfl⟩ := own_form1 hvl
      rw [← HP.out] at HL2 ⊢
      clear hvl hb2 HIA HIB HB
      go_wp2_with fail
      refine (ids_any R2 40 vib vtb idb _ _ HBB2.out (by have := HP.out; omega)).mono ?_
      rintro r w3 ⟨vm, rfl, hvm, hb3⟩
      have HA3 := Lib.hid (HA2.out.after hb3)
      have HBB3 := Lib.hid (HBB2.out.after hb3)
      have HW3 : Hid (Below w.heap.size w w3) := HW2.out.trans (hb3.mono HW2.out.size)
      have HL3 := Lib.hid (HL2.out.after hb3)
      have HSM := Lib.hid (same_eq _ vm idb w3 (by have := HP.out; omega) HL3.out (S32.of_own hvm))
      obtain ⟨Am, cm, rfl⟩ := own_form1 hvm
      rw [← HP.out] at HSM ⊢
      clear hvm hb3 HA2 HBB2 HL2
      go_wp2_with fail
      refine HSM.out.mono ?_
      rintro r w4 ⟨rfl, hb4⟩
      have HA4 := Lib.hid (HA3.out.after hb4)
      have HBB4 := Lib.hid (HBB3.out.after hb4)
      have HW4 : Hid (Below w.heap.size w w4) := HW3.out.trans (hb4.mono HW3.out.size)
      have HL4 := Lib.hid (HL3.out.after hb4)
      clear hb4 HA3 HBB3 HL3 HSM
      go_wp2_with fail
      go_loopw [12] (fun v wr => ∃ i : Nat, i ≤ p ∧ v = .int .i64 (i : Int) ∧ Hid (IsR wr R 40 via vta idb (idb.map tx)) ∧ Hid (IsR wr R2 40 vib vtb idb (idb.map tx)) ∧ Hid (S32 wr (.slice Al idb.length cl) idb) ∧ Hid (Below w.heap.size w wr)) (fun v _ => p - (intOf v).toNat)
      case atStart => exact ⟨0, by omega, rfl, HA4.out, HBB4.out, by rw [HP.out] at HL4; exact HL4.out, HW4.out⟩
      case round =>
        clear HA4 HBB4 HW4 HL4
        obtain ⟨i, hip, rfl, HIA, HIB, HLS, HB⟩ := hrel
        by_cases hlt : i < p
        · obtain ⟨x, hx⟩ : ∃ x, idb[i]? = some x := ⟨idb[i]'(by rw [← HP.out]; exact hlt), List.getElem?_eq_getElem _⟩
          obtain ⟨A', c', e, hL⟩ := HLS.out
          injection e with e1 _ e3
          subst e1 e3
          obtain ⟨bl, ol, rfl, hbl, hal⟩ := hL (by rw [← HP.out]; omega)
          have HX : Hid (∀ W, Below wr.heap.size wr W → W.cell? ⟨bl, ol + i, none⟩ = some (.int .u32 (x : Int))) := fun W hW => (hW.cell (p := ⟨bl, _, none⟩) hbl).trans (hal i x hx)
          have HAL := Lib.hid hal
          have HBL := Lib.hid hbl
          have HXM := Lib.hid (List.mem_of_getElem? hx)
          have HXE := Lib.hid hx
          have hd24 : decide (1 ≤ x ∧ x ≤ 2147483647) = true := by rw [decide_eq_true_iff]; exact HIA.out.ok x HXM.out
          have HRT : Hid (∀ W : World, Calls Try.prog 24 #[.int .u32 (x : Int)] W fun r w' => r = .returned (.bool true) ∧ Below W.heap.size W w') := fun W => by
            rw [← hd24]
            exact (right_any x W).mono fun _ _ ⟨h1, h2⟩ => ⟨h1, by rw [h2]; exact Below.refl _ _⟩
          have HGA := Lib.hid (get_txt tx R 40 via vta idb x wr HIA.out (by rw [← HP.out]; omega) HXM.out)
          have HGB := Lib.hid (get_txt tx R2 40 vib vtb idb x wr HIB.out (by rw [← HP.out]; omega) HXM.out)
          have d := HX.out wr (Below.refl _ _)
          clear hx hal hbl hL hd24
          have HBr : Hid (Below wr.heap.size wr wr) := Below.refl _ _
          go_wp2_with fail
          refine HGA.out.mono ?_
          rintro r wq ⟨rfl, rfl⟩
          go_wp2_with fail
          refine HGB.out.mono ?_
          rintro r wr ⟨rfl, rfl⟩
          clear d HGA HGB
          have hwx1 : IntKind.u8.wrap (x : Int) = (x : Int) % 256 := by rw [IntKind.wrap_u8]
          have hwx2 : IntKind.u8.wrap ((x : Int) / 256) = (x : Int) / 256 % 256 := by rw [IntKind.wrap_u8]
          by_cases hi0 : i = 0
          · have HI0 := Lib.hid hi0
            clear hi0
            go_upto_region 19 with (fail)
            have HDu : Hid (Below wr.heap.size wr wr.drew) := HBr.out.drew
            refine wp_region_held_drew (S := fun W : World => W.cell? ⟨bl, ol + i, none⟩ = some (.int .u32 (x : Int))) (by kernel_rfl) ((HX.out _ (HDu.out))) (fun hHeld => ?_)
            obtain ⟨Wu0, hW0⟩ : ∃ W0, W0 = wr.drew := ⟨_, rfl⟩
            rw [← hW0] at hHeld HDu ⊢
            clear hW0
            refine wpAnyH_take (i := 0) (oi := ?oi0u) (v := ?v0u) ?hi0u ?hs0u ?hf0u ?hr0u ?hQ0u ?hy0u ?hS0u ?h0u
            case hi0u => exact (by simp only [List.getElem?_toArray, List.getElem?_cons_zero]; rfl)
            case hs0u => kernel_rfl
            case hf0u => kernel_rfl
            case hr0u => kernel_rfl
            case hQ0u => exact fun _ _ _ h => h
            case hy0u =>
              refine Or.inl ⟨rfl, ?_⟩
              intro W hSw
              have y0 : W.cell? ⟨bl, ol + i, none⟩ = some (.int .u32 (x : Int)) := hSw
              clear hSw
              go_simp
              try with_reducible rfl
            case hS0u => assumption
            try simp only [Act.put, List.setIfInBounds_toArray, List.set_cons_zero, List.set_cons_succ]
            refine wpAnyH_take (i := 1) (oi := ?oi1u) (v := (.bool false)) ?hi1u ?hs1u ?hf1u ?hr1u ?hQ1u ?hy1u ?hS1u ?h1u
            case hi1u => exact (by simp only [List.getElem?_toArray, List.getElem?_cons_succ, List.getElem?_cons_zero]; rfl)
            case hs1u => kernel_rfl
            case hf1u => kernel_rfl
            case hr1u => kernel_rfl
            case hQ1u => exact fun _ _ _ h => h
            case hy1u =>
              refine Or.inl ⟨rfl, ?_⟩
              intro W hSw
              have y0 : W.cell? ⟨bl, ol + i, none⟩ = some (.int .u32 (x : Int)) := hSw
              clear hSw
              go_simp
              all_goals first | with_reducible rfl | (simp; done) | (have hz := HI0.out; omega) | (have hz := HI0.out; simp [hz]; done) | (have hz := HI0.out; simp; omega)
            case hS1u => assumption
            try simp only [Act.put, List.setIfInBounds_toArray, List.set_cons_zero, List.set_cons_succ]
            refine wpAnyH_take (i := 2) (oi := ?oi2u) (v := (.bool false)) ?hi2u ?hs2u ?hf2u ?hr2u ?hQ2u ?hy2u ?hS2u ?h2u
            case hi2u => exact (by simp only [List.getElem?_toArray, List.getElem?_cons_succ, List.getElem?_cons_zero]; rfl)
            case hs2u => kernel_rfl
            case hf2u => kernel_rfl
            case hr2u => kernel_rfl
            case hQ2u => exact fun _ _ _ h => h
            case hy2u =>
              refine Or.inl ⟨rfl, ?_⟩
              intro W hSw
              have y0 : W.cell? ⟨bl, ol + i, none⟩ = some (.int .u32 (x : Int)) := hSw
              clear hSw
              go_simp
              all_goals first | with_reducible rfl | (simp; done) | (have hz := HI0.out; omega) | (have hz := HI0.out; simp [hz]; done) | (have hz := HI0.out; simp; omega)
            case hS2u => assumption
            try simp only [Act.put, List.setIfInBounds_toArray, List.set_cons_zero, List.set_cons_succ]
            refine wpAnyH_take (i := 3) (oi := ?oi3u) (v := ?v3u) ?hi3u ?hs3u ?hf3u ?hr3u ?hQ3u ?hy3u ?hS3u ?h3u
            case hi3u => exact (by simp only [List.getElem?_toArray, List.getElem?_cons_succ, List.getElem?_cons_zero]; rfl)
            case hs3u => kernel_rfl
            case hf3u => kernel_rfl
            case hr3u => kernel_rfl
            case hQ3u => exact fun _ _ _ h => h
            case hy3u =>
              refine Or.inl ⟨rfl, ?_⟩
              intro W hSw
              have y0 : W.cell? ⟨bl, ol + i, none⟩ = some (.int .u32 (x : Int)) := hSw
              clear hSw
              go_simp
              try with_reducible rfl
            case hS3u => assumption
            try simp only [Act.put, List.setIfInBounds_toArray, List.set_cons_zero, List.set_cons_succ]
            refine wpAnyH_take (i := 4) (oi := ?oi4u) (v := (.bool false)) ?hi4u ?hs4u ?hf4u ?hr4u ?hQ4u ?hy4u ?hS4u ?h4u
            case hi4u => exact (by simp only [List.getElem?_toArray, List.getElem?_cons_succ, List.getElem?_cons_zero]; rfl)
            case hs4u => kernel_rfl
            case hf4u => kernel_rfl
            case hr4u => kernel_rfl
            case hQ4u => exact fun _ _ _ h => h
            case hy4u =>
              refine Or.inl ⟨rfl, ?_⟩
              intro W hSw
              have y0 : W.cell? ⟨bl, ol + i, none⟩ = some (.int .u32 (x : Int)) := hSw
              clear hSw
              go_simp
              all_goals first | with_reducible rfl | (simp; done) | (have hz := HI0.out; omega) | (have hz := HI0.out; simp [hz]; done) | (have hz := HI0.out; simp; omega)
            case hS4u => assumption
            try simp only [Act.put, List.setIfInBounds_toArray, List.set_cons_zero, List.set_cons_succ]
            refine wpAnyH_take (i := 5) (oi := ?oi5u) (v := (.bool false)) ?hi5u ?hs5u ?hf5u ?hr5u ?hQ5u ?hy5u ?hS5u ?h5u
            case hi5u => exact (by simp only [List.getElem?_toArray, List.getElem?_cons_succ, List.getElem?_cons_zero]; rfl)
            case hs5u => kernel_rfl
            case hf5u => kernel_rfl
            case hr5u => kernel_rfl
            case hQ5u => exact fun _ _ _ h => h
            case hy5u =>
              refine Or.inl ⟨rfl, ?_⟩
              intro W hSw
              have y0 : W.cell? ⟨bl, ol + i, none⟩ = some (.int .u32 (x : Int)) := hSw
              clear hSw
              go_simp
              all_goals first | with_reducible rfl | (simp; done) | (have hz := HI0.out; omega) | (have hz := HI0.out; simp [hz]; done) | (have hz := HI0.out; simp; omega)
            case hS5u => assumption
            try simp only [Act.put, List.setIfInBounds_toArray, List.set_cons_zero, List.set_cons_succ]
            refine wpAnyH_take (i := 6) (oi := ?oi6u) (v := (.bool false)) ?hi6u ?hs6u ?hf6u ?hr6u ?hQ6u ?hy6u ?hS6u ?h6u
            case hi6u => exact (by simp only [List.getElem?_toArray, List.getElem?_cons_succ, List.getElem?_cons_zero]; rfl)
            case hs6u => kernel_rfl
            case hf6u => kernel_rfl
            case hr6u => kernel_rfl
            case hQ6u => exact fun _ _ _ h => h
            case hy6u =>
              refine Or.inl ⟨rfl, ?_⟩
              intro W hSw
              have y0 : W.cell? ⟨bl, ol + i, none⟩ = some (.int .u32 (x : Int)) := hSw
              clear hSw
              go_simp
              all_goals first | with_reducible rfl | (simp; done) | (have hz := HI0.out; omega) | (have hz := HI0.out; simp [hz]; done) | (have hz := HI0.out; simp; omega)
            case hS6u => assumption
            try simp only [Act.put, List.setIfInBounds_toArray, List.set_cons_zero, List.set_cons_succ]
            refine wpAnyH_take (i := 7) (oi := ?oi7u) (v := ?v7u) ?hi7u ?hs7u ?hf7u ?hr7u ?hQ7u ?hy7u ?hS7u ?h7u
            case hi7u => exact (by simp only [List.getElem?_toArray, List.getElem?_cons_succ, List.getElem?_cons_zero]; rfl)
            case hs7u => kernel_rfl
            case hf7u => kernel_rfl
            case hr7u => kernel_rfl
            case hQ7u => exact fun _ _ _ h => h
            case hy7u =>
              refine Or.inl ⟨rfl, ?_⟩
              intro W hSw
              have y0 : W.cell? ⟨bl, ol + i, none⟩ = some (.int .u32 (x : Int)) := hSw
              clear hSw
              go_simp
              try with_reducible rfl
            case hS7u => assumption
            try simp only [Act.put, List.setIfInBounds_toArray, List.set_cons_zero, List.set_cons_succ]
            refine wpAnyH_take (i := 8) (oi := ?oi8u) (v := ?v8u) ?hi8u ?hs8u ?hf8u ?hr8u ?hQ8u ?hy8u ?hS8u ?h8u
            case hi8u => exact (by simp only [List.getElem?_toArray, List.getElem?_cons_succ, List.getElem?_cons_zero]; rfl)
            case hs8u => kernel_rfl
            case hf8u => kernel_rfl
            case hr8u => kernel_rfl
            case hQ8u => exact fun _ _ _ h => h
            case hy8u =>
              refine Or.inl ⟨rfl, ?_⟩
              intro W hSw
              have y0 : W.cell? ⟨bl, ol + i, none⟩ = some (.int .u32 (x : Int)) := hSw
              clear hSw
              go_simp
              try with_reducible rfl
            case hS8u => assumption
            try simp only [Act.put, List.setIfInBounds_toArray, List.set_cons_zero, List.set_cons_succ]
            refine wpAnyH_take (i := 9) (oi := ?oi9u) (v := (.bool false)) ?hi9u ?hs9u ?hf9u ?hr9u ?hQ9u ?hy9u ?hS9u ?h9u
            case hi9u => exact (by simp only [List.getElem?_toArray, List.getElem?_cons_succ, List.getElem?_cons_zero]; rfl)
            case hs9u => kernel_rfl
            case hf9u => kernel_rfl
            case hr9u => kernel_rfl
            case hQ9u => exact fun _ _ _ h => h
            case hy9u =>
              refine Or.inl ⟨rfl, ?_⟩
              intro W hSw
              have y0 : W.cell? ⟨bl, ol + i, none⟩ = some (.int .u32 (x : Int)) := hSw
              clear hSw
              go_simp
              all_goals first | with_reducible rfl | (simp; done) | (have hz := HI0.out; omega) | (have hz := HI0.out; simp [hz]; done) | (have hz := HI0.out; simp; omega)
            case hS9u => assumption
            try simp only [Act.put, List.setIfInBounds_toArray, List.set_cons_zero, List.set_cons_succ]
            refine wpAnyH_take (i := 10) (oi := ?oi10u) (v := (.bool false)) ?hi10u ?hs10u ?hf10u ?hr10u ?hQ10u ?hy10u ?hS10u ?h10u
            case hi10u => exact (by simp only [List.getElem?_toArray, List.getElem?_cons_succ, List.getElem?_cons_zero]; rfl)
            case hs10u => kernel_rfl
            case hf10u => kernel_rfl
            case hr10u => kernel_rfl
            case hQ10u => exact fun _ _ _ h => h
            case hy10u =>
              refine Or.inl ⟨rfl, ?_⟩
              intro W hSw
              have y0 : W.cell? ⟨bl, ol + i, none⟩ = some (.int .u32 (x : Int)) := hSw
              clear hSw
              go_simp
              all_goals first | with_reducible rfl | (simp; done) | (have hz := HI0.out; omega) | (have hz := HI0.out; simp [hz]; done) | (have hz := HI0.out; simp; omega)
            case hS10u => assumption
            try simp only [Act.put, List.setIfInBounds_toArray, List.set_cons_zero, List.set_cons_succ]
            refine wpAnyH_take (i := 11) (oi := ?oi11u) (v := (.bool false)) ?hi11u ?hs11u ?hf11u ?hr11u ?hQ11u ?hy11u ?hS11u ?h11u
            case hi11u => exact (by simp only [List.getElem?_toArray, List.getElem?_cons_succ, List.getElem?_cons_zero]; rfl)
            case hs11u => kernel_rfl
            case hf11u => kernel_rfl
            case hr11u => kernel_rfl
            case hQ11u => exact fun _ _ _ h => h
            case hy11u =>
              refine Or.inl ⟨rfl, ?_⟩
              intro W hSw
              have y0 : W.cell? ⟨bl, ol + i, none⟩ = some (.int .u32 (x : Int)) := hSw
              clear hSw
              go_simp
              all_goals first | with_reducible rfl | (simp; done) | (have hz := HI0.out; omega) | (have hz := HI0.out; simp [hz]; done) | (have hz := HI0.out; simp; omega)
            case hS11u => assumption
            try simp only [Act.put, List.setIfInBounds_toArray, List.set_cons_zero, List.set_cons_succ]
            refine wpAnyH_take (i := 12) (oi := ?oi12u) (v := ?v12u) ?hi12u ?hs12u ?hf12u ?hr12u ?hQ12u ?hy12u ?hS12u ?h12u
            case hi12u => exact (by simp only [List.getElem?_toArray, List.getElem?_cons_succ, List.getElem?_cons_zero]; rfl)
            case hs12u => kernel_rfl
            case hf12u => kernel_rfl
            case hr12u => kernel_rfl
            case hQ12u => exact fun _ _ _ h => h
            case hy12u =>
              refine Or.inl ⟨rfl, ?_⟩
              intro W hSw
              have y0 : W.cell? ⟨bl, ol + i, none⟩ = some (.int .u32 (x : Int)) := hSw
              clear hSw
              go_simp
              try with_reducible rfl
            case hS12u => assumption
            try simp only [Act.put, List.setIfInBounds_toArray, List.set_cons_zero, List.set_cons_succ]
            refine wpAnyH_take (i := 13) (oi := ?oi13u) (v := ?v13u) ?hi13u ?hs13u ?hf13u ?hr13u ?hQ13u ?hy13u ?hS13u ?h13u
            case hi13u => exact (by simp only [List.getElem?_toArray, List.getElem?_cons_succ, List.getElem?_cons_zero]; rfl)
            case hs13u => kernel_rfl
            case hf13u => kernel_rfl
            case hr13u => kernel_rfl
            case hQ13u => exact fun _ _ _ h => h
            case hy13u =>
              refine Or.inl ⟨rfl, ?_⟩
              intro W hSw
              have y0 : W.cell? ⟨bl, ol + i, none⟩ = some (.int .u32 (x : Int)) := hSw
              clear hSw
              go_simp
              try with_reducible rfl
            case hS13u => assumption
            try simp only [Act.put, List.setIfInBounds_toArray, List.set_cons_zero, List.set_cons_succ]
            refine wpAnyH_take (i := 14) (oi := ?oi14u) (v := ?v14u) ?hi14u ?hs14u ?hf14u ?hr14u ?hQ14u ?hy14u ?hS14u ?h14u
            case hi14u => exact (by simp only [List.getElem?_toArray, List.getElem?_cons_succ, List.getElem?_cons_zero]; rfl)
            case hs14u => kernel_rfl
            case hf14u => kernel_rfl
            case hr14u => kernel_rfl
            case hQ14u => exact fun _ _ _ h => h
            case hy14u =>
              refine Or.inl ⟨rfl, ?_⟩
              intro W hSw
              have y0 : W.cell? ⟨bl, ol + i, none⟩ = some (.int .u32 (x : Int)) := hSw
              clear hSw
              go_simp
              try with_reducible rfl
            case hS14u => assumption
            try simp only [Act.put, List.setIfInBounds_toArray, List.set_cons_zero, List.set_cons_succ]
            refine wpAnyH_take (i := 15) (oi := ?oi15u) (v := ?v15u) ?hi15u ?hs15u ?hf15u ?hr15u ?hQ15u ?hy15u ?hS15u ?h15u
            case hi15u => exact (by simp only [List.getElem?_toArray, List.getElem?_cons_succ, List.getElem?_cons_zero]; rfl)
            case hs15u => kernel_rfl
            case hf15u => kernel_rfl
            case hr15u => kernel_rfl
            case hQ15u => exact fun _ _ _ h => h
            case hy15u =>
              refine Or.inl ⟨rfl, ?_⟩
              intro W hSw
              have y0 : W.cell? ⟨bl, ol + i, none⟩ = some (.int .u32 (x : Int)) := hSw
              clear hSw
              go_simp
              try with_reducible rfl
            case hS15u => assumption
            try simp only [Act.put, List.setIfInBounds_toArray, List.set_cons_zero, List.set_cons_succ]
            refine wpAnyH_take (i := 16) (oi := ?oi16u) (v := ?v16u) ?hi16u ?hs16u ?hf16u ?hr16u ?hQ16u ?hy16u ?hS16u ?h16u
            case hi16u => exact (by simp only [List.getElem?_toArray, List.getElem?_cons_succ, List.getElem?_cons_zero]; rfl)
            case hs16u => kernel_rfl
            case hf16u => kernel_rfl
            case hr16u => kernel_rfl
            case hQ16u => exact fun _ _ _ h => h
            case hy16u =>
              refine Or.inl ⟨rfl, ?_⟩
              intro W hSw
              have y0 : W.cell? ⟨bl, ol + i, none⟩ = some (.int .u32 (x : Int)) := hSw
              clear hSw
              go_simp
              try with_reducible rfl
            case hS16u => assumption
            try simp only [Act.put, List.setIfInBounds_toArray, List.set_cons_zero, List.set_cons_succ]
            refine wpAnyH_take (i := 17) (oi := ?oi17u) (v := ?v17u) ?hi17u ?hs17u ?hf17u ?hr17u ?hQ17u ?hy17u ?hS17u ?h17u
            case hi17u => exact (by simp only [List.getElem?_toArray, List.getElem?_cons_succ, List.getElem?_cons_zero]; rfl)
            case hs17u => kernel_rfl
            case hf17u => kernel_rfl
            case hr17u => kernel_rfl
            case hQ17u => exact fun _ _ _ h => h
            case hy17u =>
              refine Or.inl ⟨rfl, ?_⟩
              intro W hSw
              have y0 : W.cell? ⟨bl, ol + i, none⟩ = some (.int .u32 (x : Int)) := hSw
              clear hSw
              go_simp
              try with_reducible rfl
            case hS17u => assumption
            try simp only [Act.put, List.setIfInBounds_toArray, List.set_cons_zero, List.set_cons_succ]
            refine wpAnyH_take (i := 18) (oi := ?oi18u) (v := ?v18u) ?hi18u ?hs18u ?hf18u ?hr18u ?hQ18u ?hy18u ?hS18u ?h18u
            case hi18u => exact (by simp only [List.getElem?_toArray, List.getElem?_cons_succ, List.getElem?_cons_zero]; rfl)
            case hs18u => kernel_rfl
            case hf18u => kernel_rfl
            case hr18u => kernel_rfl
            case hQ18u => exact fun _ _ _ h => h
            case hy18u =>
              refine Or.inl ⟨rfl, ?_⟩
              intro W hSw
              have y0 : W.cell? ⟨bl, ol + i, none⟩ = some (.int .u32 (x : Int)) := hSw
              clear hSw
              go_simp
              try with_reducible rfl
            case hS18u => assumption
            try simp only [Act.put, List.setIfInBounds_toArray, List.set_cons_zero, List.set_cons_succ]
            refine wpAnyH_take (i := 19) (oi := ?oi19u) (v := ?v19u) ?hi19u ?hs19u ?hf19u ?hr19u ?hQ19u ?hy19u ?hS19u ?h19u
            case hi19u => exact (by simp only [List.getElem?_toArray, List.getElem?_cons_succ, List.getElem?_cons_zero]; rfl)
            case hs19u => kernel_rfl
            case hf19u => kernel_rfl
            case hr19u => kernel_rfl
            case hQ19u => exact fun _ _ _ h => h
            case hy19u =>
              refine Or.inl ⟨rfl, ?_⟩
              intro W hSw
              have y0 : W.cell? ⟨bl, ol + i, none⟩ = some (.int .u32 (x : Int)) := hSw
              clear hSw
              go_simp
              try with_reducible rfl
            case hS19u => assumption
            try simp only [Act.put, List.setIfInBounds_toArray, List.set_cons_zero, List.set_cons_succ]
            refine wpAnyH_take (i := 20) (oi := ?oi20u) (v := ?v20u) ?hi20u ?hs20u ?hf20u ?hr20u ?hQ20u ?hy20u ?hS20u ?h20u
            case hi20u => exact (by simp only [List.getElem?_toArray, List.getElem?_cons_succ, List.getElem?_cons_zero]; rfl)
            case hs20u => kernel_rfl
            case hf20u => kernel_rfl
            case hr20u => kernel_rfl
            case hQ20u => exact fun _ _ _ h => h
            case hy20u =>
              refine Or.inl ⟨rfl, ?_⟩
              intro W hSw
              have y0 : W.cell? ⟨bl, ol + i, none⟩ = some (.int .u32 (x : Int)) := hSw
              clear hSw
              go_simp
              try with_reducible rfl
            case hS20u => assumption
            try simp only [Act.put, List.setIfInBounds_toArray, List.set_cons_zero, List.set_cons_succ]
            refine wpAnyH_take (i := 21) (oi := ?oi21u) (v := ?v21u) ?hi21u ?hs21u ?hf21u ?hr21u ?hQ21u ?hy21u ?hS21u ?h21u
            case hi21u => exact (by simp only [List.getElem?_toArray, List.getElem?_cons_succ, List.getElem?_cons_zero]; rfl)
            case hs21u => kernel_rfl
            case hf21u => kernel_rfl
            case hr21u => kernel_rfl
            case hQ21u => exact fun _ _ _ h => h
            case hy21u =>
              refine Or.inl ⟨rfl, ?_⟩
              intro W hSw
              have y0 : W.cell? ⟨bl, ol + i, none⟩ = some (.int .u32 (x : Int)) := hSw
              clear hSw
              go_simp
              try with_reducible rfl
            case hS21u => assumption
            try simp only [Act.put, List.setIfInBounds_toArray, List.set_cons_zero, List.set_cons_succ]
            refine wpAnyH_take (i := 22) (oi := ?oi22u) (v := ?v22u) ?hi22u ?hs22u ?hf22u ?hr22u ?hQ22u ?hy22u ?hS22u ?h22u
            case hi22u => exact (by simp only [List.getElem?_toArray, List.getElem?_cons_succ, List.getElem?_cons_zero]; rfl)
            case hs22u => kernel_rfl
            case hf22u => kernel_rfl
            case hr22u => kernel_rfl
            case hQ22u => exact fun _ _ _ h => h
            case hy22u =>
              refine Or.inl ⟨rfl, ?_⟩
              intro W hSw
              have y0 : W.cell? ⟨bl, ol + i, none⟩ = some (.int .u32 (x : Int)) := hSw
              clear hSw
              go_simp
              try with_reducible rfl
            case hS22u => assumption
            try simp only [Act.put, List.setIfInBounds_toArray, List.set_cons_zero, List.set_cons_succ]
            refine wpAnyH_take (i := 23) (oi := ?oi23u) (v := ?v23u) ?hi23u ?hs23u ?hf23u ?hr23u ?hQ23u ?hy23u ?hS23u ?h23u
            case hi23u => exact (by simp only [List.getElem?_toArray, List.getElem?_cons_succ, List.getElem?_cons_zero]; rfl)
            case hs23u => kernel_rfl
            case hf23u => kernel_rfl
            case hr23u => kernel_rfl
            case hQ23u => exact fun _ _ _ h => h
            case hy23u =>
              refine Or.inl ⟨rfl, ?_⟩
              intro W hSw
              have y0 : W.cell? ⟨bl, ol + i, none⟩ = some (.int .u32 (x : Int)) := hSw
              clear hSw
              go_simp
              try with_reducible rfl
            case hS23u => assumption
            try simp only [Act.put, List.setIfInBounds_toArray, List.set_cons_zero, List.set_cons_succ]
            refine wpAnyH_ready (rs := [24]) (by kernel_rfl) (by simp) ?_
            refine AllReadyH.cons (o := _) rfl (fun K hK => ?_) AllReadyH.nil
            go_simp
            refine hK.out _ _ ((HX.out _ (HDu.out.alloc HDu.out.size _))) (fun hHeld => ?_)
            clear hK K
            try simp only [Act.put, List.setIfInBounds_toArray, List.set_cons_zero, List.set_cons_succ]
            have hCq := conv2 x Wu0
            obtain ⟨Wu1, hW1⟩ : ∃ W1, W1 = Wu0.alloc (.cells #[.int .u8 ((x : Int) % 256), .int .u8 ((x : Int) / 256 % 256)] 5) := ⟨_, rfl⟩
            have HBu1 : Hid (Below wr.heap.size wr Wu1) := by rw [hW1]; exact HDu.out.alloc HDu.out.size _
            rw [← hW1] at hCq hHeld ⊢
            clear hW1
            refine wpAnyH_ready (rs := [25]) (by kernel_rfl) (by simp) ?_
            refine AllReadyH.cons (o := _) rfl (fun K hK => ?_) AllReadyH.nil
            go_simp
            clear hCq
            refine hK.out _ _ ((HX.out _ (HBu1.out))) (fun hHeld => ?_)
            clear hK K
            try simp only [Act.put, List.setIfInBounds_toArray, List.set_cons_zero, List.set_cons_succ]
            refine wpAnyH_take (i := 26) (oi := ?oi26u) (v := (.bool false)) ?hi26u ?hs26u ?hf26u ?hr26u ?hQ26u ?hy26u ?hS26u ?h26u
            case hi26u => exact (by simp only [List.getElem?_toArray, List.getElem?_cons_succ, List.getElem?_cons_zero]; rfl)
            case hs26u => kernel_rfl
            case hf26u => kernel_rfl
            case hr26u => kernel_rfl
            case hQ26u => exact fun _ _ _ h => h
            case hy26u =>
              refine Or.inl ⟨rfl, ?_⟩
              intro W hSw
              have y0 : W.cell? ⟨bl, ol + i, none⟩ = some (.int .u32 (x : Int)) := hSw
              clear hSw
              go_simp
              all_goals first | with_reducible rfl | (simp; done) | (have hz := HI0.out; omega) | (have hz := HI0.out; simp [hz]; done) | (have hz := HI0.out; simp; omega)
            case hS26u => assumption
            try simp only [Act.put, List.setIfInBounds_toArray, List.set_cons_zero, List.set_cons_succ]
            refine wpAnyH_take (i := 27) (oi := ?oi27u) (v := (.bool false)) ?hi27u ?hs27u ?hf27u ?hr27u ?hQ27u ?hy27u ?hS27u ?h27u
            case hi27u => exact (by simp only [List.getElem?_toArray, List.getElem?_cons_succ, List.getElem?_cons_zero]; rfl)
            case hs27u => kernel_rfl
            case hf27u => kernel_rfl
            case hr27u => kernel_rfl
            case hQ27u => exact fun _ _ _ h => h
            case hy27u =>
              refine Or.inl ⟨rfl, ?_⟩
              intro W hSw
              have y0 : W.cell? ⟨bl, ol + i, none⟩ = some (.int .u32 (x : Int)) := hSw
              clear hSw
              go_simp
              all_goals first | with_reducible rfl | (simp; done) | (have hz := HI0.out; omega) | (have hz := HI0.out; simp [hz]; done) | (have hz := HI0.out; simp; omega)
            case hS27u => assumption
            try simp only [Act.put, List.setIfInBounds_toArray, List.set_cons_zero, List.set_cons_succ]
            refine wpAnyH_take (i := 28) (oi := ?oi28u) (v := (.bool false)) ?hi28u ?hs28u ?hf28u ?hr28u ?hQ28u ?hy28u ?hS28u ?h28u
            case hi28u => exact (by simp only [List.getElem?_toArray, List.getElem?_cons_succ, List.getElem?_cons_zero]; rfl)
            case hs28u => kernel_rfl
            case hf28u => kernel_rfl
            case hr28u => kernel_rfl
            case hQ28u => exact fun _ _ _ h => h
            case hy28u =>
              refine Or.inl ⟨rfl, ?_⟩
              intro W hSw
              have y0 : W.cell? ⟨bl, ol + i, none⟩ = some (.int .u32 (x : Int)) := hSw
              clear hSw
              go_simp
              all_goals first | with_reducible rfl | (simp; done) | (have hz := HI0.out; omega) | (have hz := HI0.out; simp [hz]; done) | (have hz := HI0.out; simp; omega)
            case hS28u => assumption
            try simp only [Act.put, List.setIfInBounds_toArray, List.set_cons_zero, List.set_cons_succ]
            refine wpAnyH_take (i := 29) (oi := ?oi29u) (v := ?v29u) ?hi29u ?hs29u ?hf29u ?hr29u ?hQ29u ?hy29u ?hS29u ?h29u
            case hi29u => exact (by simp only [List.getElem?_toArray, List.getElem?_cons_succ, List.getElem?_cons_zero]; rfl)
            case hs29u => kernel_rfl
            case hf29u => kernel_rfl
            case hr29u => kernel_rfl
            case hQ29u => exact fun _ _ _ h => h
            case hy29u =>
              refine Or.inl ⟨rfl, ?_⟩
              intro W hSw
              have y0 : W.cell? ⟨bl, ol + i, none⟩ = some (.int .u32 (x : Int)) := hSw
              clear hSw
              go_simp
              try with_reducible rfl
            case hS29u => assumption
            try simp only [Act.put, List.setIfInBounds_toArray, List.set_cons_zero, List.set_cons_succ]
            refine wpAnyH_take (i := 30) (oi := ?oi30u) (v := ?v30u) ?hi30u ?hs30u ?hf30u ?hr30u ?hQ30u ?hy30u ?hS30u ?h30u
            case hi30u => exact (by simp only [List.getElem?_toArray, List.getElem?_cons_succ, List.getElem?_cons_zero]; rfl)
            case hs30u => kernel_rfl
            case hf30u => kernel_rfl
            case hr30u => kernel_rfl
            case hQ30u => exact fun _ _ _ h => h
            case hy30u =>
              refine Or.inl ⟨rfl, ?_⟩
              intro W hSw
              have y0 : W.cell? ⟨bl, ol + i, none⟩ = some (.int .u32 (x : Int)) := hSw
              clear hSw
              go_simp
              try with_reducible rfl
            case hS30u => assumption
            try simp only [Act.put, List.setIfInBounds_toArray, List.set_cons_zero, List.set_cons_succ]
            refine wpAnyH_take (i := 31) (oi := ?oi31u) (v := ?v31u) ?hi31u ?hs31u ?hf31u ?hr31u ?hQ31u ?hy31u ?hS31u ?h31u
            case hi31u => exact (by simp only [List.getElem?_toArray, List.getElem?_cons_succ, List.getElem?_cons_zero]; rfl)
            case hs31u => kernel_rfl
            case hf31u => kernel_rfl
            case hr31u => kernel_rfl
            case hQ31u => exact fun _ _ _ h => h
            case hy31u =>
              refine Or.inl ⟨rfl, ?_⟩
              intro W hSw
              have y0 : W.cell? ⟨bl, ol + i, none⟩ = some (.int .u32 (x : Int)) := hSw
              clear hSw
              go_simp
              try with_reducible rfl
            case hS31u => assumption
            try simp only [Act.put, List.setIfInBounds_toArray, List.set_cons_zero, List.set_cons_succ]
            refine wpAnyH_take (i := 32) (oi := ?oi32u) (v := ?v32u) ?hi32u ?hs32u ?hf32u ?hr32u ?hQ32u ?hy32u ?hS32u ?h32u
            case hi32u => exact (by simp only [List.getElem?_toArray, List.getElem?_cons_succ, List.getElem?_cons_zero]; rfl)
            case hs32u => kernel_rfl
            case hf32u => kernel_rfl
            case hr32u => kernel_rfl
            case hQ32u => exact fun _ _ _ h => h
            case hy32u =>
              refine Or.inl ⟨rfl, ?_⟩
              intro W hSw
              have y0 : W.cell? ⟨bl, ol + i, none⟩ = some (.int .u32 (x : Int)) := hSw
              clear hSw
              go_simp
              try with_reducible rfl
            case hS32u => assumption
            try simp only [Act.put, List.setIfInBounds_toArray, List.set_cons_zero, List.set_cons_succ]
            refine wpAnyH_ready (rs := [33]) (by kernel_rfl) (by simp) ?_
            refine AllReadyH.cons (o := _) rfl (fun K hK => ?_) AllReadyH.nil
            go_simp
            refine (HRT.out Wu1).mono ?_
            rintro r Wu2 ⟨rfl, hbq⟩
            have HBu2 := Lib.hid (HBu1.out.trans (hbq.mono HBu1.out.size))
            clear hbq
            refine hK.out _ _ ((HX.out _ (HBu2.out))) (fun hHeld => ?_)
            clear hK K
            try simp only [Act.put, List.setIfInBounds_toArray, List.set_cons_zero, List.set_cons_succ]
            refine wpAnyH_take (i := 34) (oi := ?oi34u) (v := (.bool false)) ?hi34u ?hs34u ?hf34u ?hr34u ?hQ34u ?hy34u ?hS34u ?h34u
            case hi34u => exact (by simp only [List.getElem?_toArray, List.getElem?_cons_succ, List.getElem?_cons_zero]; rfl)
            case hs34u => kernel_rfl
            case hf34u => kernel_rfl
            case hr34u => kernel_rfl
            case hQ34u => exact fun _ _ _ h => h
            case hy34u =>
              refine Or.inl ⟨rfl, ?_⟩
              intro W hSw
              have y0 : W.cell? ⟨bl, ol + i, none⟩ = some (.int .u32 (x : Int)) := hSw
              clear hSw
              go_simp
              all_goals first | with_reducible rfl | (simp; done) | (have hz := HI0.out; omega) | (have hz := HI0.out; simp [hz]; done) | (have hz := HI0.out; simp; omega)
            case hS34u => assumption
            try simp only [Act.put, List.setIfInBounds_toArray, List.set_cons_zero, List.set_cons_succ]
            refine wpAnyH_take (i := 35) (oi := ?oi35u) (v := (.bool false)) ?hi35u ?hs35u ?hf35u ?hr35u ?hQ35u ?hy35u ?hS35u ?h35u
            case hi35u => exact (by simp only [List.getElem?_toArray, List.getElem?_cons_succ, List.getElem?_cons_zero]; rfl)
            case hs35u => kernel_rfl
            case hf35u => kernel_rfl
            case hr35u => kernel_rfl
            case hQ35u => exact fun _ _ _ h => h
            case hy35u =>
              refine Or.inl ⟨rfl, ?_⟩
              intro W hSw
              have y0 : W.cell? ⟨bl, ol + i, none⟩ = some (.int .u32 (x : Int)) := hSw
              clear hSw
              go_simp
              all_goals first | with_reducible rfl | (simp; done) | (have hz := HI0.out; omega) | (have hz := HI0.out; simp [hz]; done) | (have hz := HI0.out; simp; omega)
            case hS35u => assumption
            try simp only [Act.put, List.setIfInBounds_toArray, List.set_cons_zero, List.set_cons_succ]
            refine wpAnyH_take (i := 36) (oi := ?oi36u) (v := (.bool false)) ?hi36u ?hs36u ?hf36u ?hr36u ?hQ36u ?hy36u ?hS36u ?h36u
            case hi36u => exact (by simp only [List.getElem?_toArray, List.getElem?_cons_succ, List.getElem?_cons_zero]; rfl)
            case hs36u => kernel_rfl
            case hf36u => kernel_rfl
            case hr36u => kernel_rfl
            case hQ36u => exact fun _ _ _ h => h
            case hy36u =>
              refine Or.inl ⟨rfl, ?_⟩
              intro W hSw
              have y0 : W.cell? ⟨bl, ol + i, none⟩ = some (.int .u32 (x : Int)) := hSw
              clear hSw
              go_simp
              all_goals first | with_reducible rfl | (simp; done) | (have hz := HI0.out; omega) | (have hz := HI0.out; simp [hz]; done) | (have hz := HI0.out; simp; omega)
            case hS36u => assumption
            try simp only [Act.put, List.setIfInBounds_toArray, List.set_cons_zero, List.set_cons_succ]
            refine wpAnyH_take (i := 37) (oi := ?oi37u) (v := ?v37u) ?hi37u ?hs37u ?hf37u ?hr37u ?hQ37u ?hy37u ?hS37u ?h37u
            case hi37u => exact (by simp only [List.getElem?_toArray, List.getElem?_cons_succ, List.getElem?_cons_zero]; rfl)
            case hs37u => kernel_rfl
            case hf37u => kernel_rfl
            case hr37u => kernel_rfl
            case hQ37u => exact fun _ _ _ h => h
            case hy37u =>
              refine Or.inl ⟨rfl, ?_⟩
              intro W hSw
              have y0 : W.cell? ⟨bl, ol + i, none⟩ = some (.int .u32 (x : Int)) := hSw
              clear hSw
              go_simp
              try with_reducible rfl
            case hS37u => assumption
            try simp only [Act.put, List.setIfInBounds_toArray, List.set_cons_zero, List.set_cons_succ]
            refine wpAnyH_take (i := 38) (oi := ?oi38u) (v := (.bool false)) ?hi38u ?hs38u ?hf38u ?hr38u ?hQ38u ?hy38u ?hS38u ?h38u
            case hi38u => exact (by simp only [List.getElem?_toArray, List.getElem?_cons_succ, List.getElem?_cons_zero]; rfl)
            case hs38u => kernel_rfl
            case hf38u => kernel_rfl
            case hr38u => kernel_rfl
            case hQ38u => exact fun _ _ _ h => h
            case hy38u =>
              refine Or.inl ⟨rfl, ?_⟩
              intro W hSw
              have y0 : W.cell? ⟨bl, ol + i, none⟩ = some (.int .u32 (x : Int)) := hSw
              clear hSw
              go_simp
              all_goals first | with_reducible rfl | (simp; done) | (have hz := HI0.out; omega) | (have hz := HI0.out; simp [hz]; done) | (have hz := HI0.out; simp; omega)
            case hS38u => assumption
            try simp only [Act.put, List.setIfInBounds_toArray, List.set_cons_zero, List.set_cons_succ]
            refine wpAnyH_take (i := 39) (oi := ?oi39u) (v := (.bool false)) ?hi39u ?hs39u ?hf39u ?hr39u ?hQ39u ?hy39u ?hS39u ?h39u
            case hi39u => exact (by simp only [List.getElem?_toArray, List.getElem?_cons_succ, List.getElem?_cons_zero]; rfl)
            case hs39u => kernel_rfl
            case hf39u => kernel_rfl
            case hr39u => kernel_rfl
            case hQ39u => exact fun _ _ _ h => h
            case hy39u =>
              refine Or.inl ⟨rfl, ?_⟩
              intro W hSw
              have y0 : W.cell? ⟨bl, ol + i, none⟩ = some (.int .u32 (x : Int)) := hSw
              clear hSw
              go_simp
              all_goals first | with_reducible rfl | (simp; done) | (have hz := HI0.out; omega) | (have hz := HI0.out; simp [hz]; done) | (have hz := HI0.out; simp; omega)
            case hS39u => assumption
            try simp only [Act.put, List.setIfInBounds_toArray, List.set_cons_zero, List.set_cons_succ]
            refine wpAnyH_take (i := 40) (oi := ?oi40u) (v := undef) ?hi40u ?hs40u ?hf40u ?hr40u ?hQ40u ?hy40u ?hS40u ?h40u
            case hi40u => exact (by simp only [List.getElem?_toArray, List.getElem?_cons_succ, List.getElem?_cons_zero]; rfl)
            case hs40u => kernel_rfl
            case hf40u => kernel_rfl
            case hr40u => kernel_rfl
            case hQ40u => exact fun _ _ _ h => h
            case hy40u =>
              exact Or.inr ⟨rfl, rfl⟩
            case hS40u => assumption
            try simp only [Act.put, List.setIfInBounds_toArray, List.set_cons_zero, List.set_cons_succ]
            refine wpAnyH_take (i := 41) (oi := ?oi41u) (v := undef) ?hi41u ?hs41u ?hf41u ?hr41u ?hQ41u ?hy41u ?hS41u ?h41u
            case hi41u => exact (by simp only [List.getElem?_toArray, List.getElem?_cons_succ, List.getElem?_cons_zero]; rfl)
            case hs41u => kernel_rfl
            case hf41u => kernel_rfl
            case hr41u => kernel_rfl
            case hQ41u => exact fun _ _ _ h => h
            case hy41u =>
              exact Or.inr ⟨rfl, rfl⟩
            case hS41u => assumption
            try simp only [Act.put, List.setIfInBounds_toArray, List.set_cons_zero, List.set_cons_succ]
            refine wpAnyH_take (i := 42) (oi := ?oi42u) (v := undef) ?hi42u ?hs42u ?hf42u ?hr42u ?hQ42u ?hy42u ?hS42u ?h42u
            case hi42u => exact (by simp only [List.getElem?_toArray, List.getElem?_cons_succ, List.getElem?_cons_zero]; rfl)
            case hs42u => kernel_rfl
            case hf42u => kernel_rfl
            case hr42u => kernel_rfl
            case hQ42u => exact fun _ _ _ h => h
            case hy42u =>
              exact Or.inr ⟨rfl, rfl⟩
            case hS42u => assumption
            try simp only [Act.put, List.setIfInBounds_toArray, List.set_cons_zero, List.set_cons_succ]
            refine wpAnyH_take (i := 43) (oi := ?oi43u) (v := undef) ?hi43u ?hs43u ?hf43u ?hr43u ?hQ43u ?hy43u ?hS43u ?h43u
            case hi43u => exact (by simp only [List.getElem?_toArray, List.getElem?_cons_succ, List.getElem?_cons_zero]; rfl)
            case hs43u => kernel_rfl
            case hf43u => kernel_rfl
            case hr43u => kernel_rfl
            case hQ43u => exact fun _ _ _ h => h
            case hy43u =>
              exact Or.inr ⟨rfl, rfl⟩
            case hS43u => assumption
            try simp only [Act.put, List.setIfInBounds_toArray, List.set_cons_zero, List.set_cons_succ]
            refine wpAnyH_take (i := 44) (oi := ?oi44u) (v := undef) ?hi44u ?hs44u ?hf44u ?hr44u ?hQ44u ?hy44u ?hS44u ?h44u
            case hi44u => exact (by simp only [List.getElem?_toArray, List.getElem?_cons_succ, List.getElem?_cons_zero]; rfl)
            case hs44u => kernel_rfl
            case hf44u => kernel_rfl
            case hr44u => kernel_rfl
            case hQ44u => exact fun _ _ _ h => h
            case hy44u =>
              exact Or.inr ⟨rfl, rfl⟩
            case hS44u => assumption
            try simp only [Act.put, List.setIfInBounds_toArray, List.set_cons_zero, List.set_cons_succ]
            refine wpAnyH_take (i := 45) (oi := ?oi45u) (v := undef) ?hi45u ?hs45u ?hf45u ?hr45u ?hQ45u ?hy45u ?hS45u ?h45u
            case hi45u => exact (by simp only [List.getElem?_toArray, List.getElem?_cons_succ, List.getElem?_cons_zero]; rfl)
            case hs45u => kernel_rfl
            case hf45u => kernel_rfl
            case hr45u => kernel_rfl
            case hQ45u => exact fun _ _ _ h => h
            case hy45u =>
              exact Or.inr ⟨rfl, rfl⟩
            case hS45u => assumption
            try simp only [Act.put, List.setIfInBounds_toArray, List.set_cons_zero, List.set_cons_succ]
            refine wpAnyH_take (i := 46) (oi := ?oi46u) (v := undef) ?hi46u ?hs46u ?hf46u ?hr46u ?hQ46u ?hy46u ?hS46u ?h46u
            case hi46u => exact (by simp only [List.getElem?_toArray, List.getElem?_cons_succ, List.getElem?_cons_zero]; rfl)
            case hs46u => kernel_rfl
            case hf46u => kernel_rfl
            case hr46u => kernel_rfl
            case hQ46u => exact fun _ _ _ h => h
            case hy46u =>
              exact Or.inr ⟨rfl, rfl⟩
            case hS46u => assumption
            try simp only [Act.put, List.setIfInBounds_toArray, List.set_cons_zero, List.set_cons_succ]
            refine wpAnyH_take (i := 47) (oi := ?oi47u) (v := undef) ?hi47u ?hs47u ?hf47u ?hr47u ?hQ47u ?hy47u ?hS47u ?h47u
            case hi47u => exact (by simp only [List.getElem?_toArray, List.getElem?_cons_succ, List.getElem?_cons_zero]; rfl)
            case hs47u => kernel_rfl
            case hf47u => kernel_rfl
            case hr47u => kernel_rfl
            case hQ47u => exact fun _ _ _ h => h
            case hy47u =>
              exact Or.inr ⟨rfl, rfl⟩
            case hS47u => assumption
            try simp only [Act.put, List.setIfInBounds_toArray, List.set_cons_zero, List.set_cons_succ]
            refine wpAnyH_take (i := 48) (oi := ?oi48u) (v := undef) ?hi48u ?hs48u ?hf48u ?hr48u ?hQ48u ?hy48u ?hS48u ?h48u
            case hi48u => exact (by simp only [List.getElem?_toArray, List.getElem?_cons_succ, List.getElem?_cons_zero]; rfl)
            case hs48u => kernel_rfl
            case hf48u => kernel_rfl
            case hr48u => kernel_rfl
            case hQ48u => exact fun _ _ _ h => h
            case hy48u =>
              exact Or.inr ⟨rfl, rfl⟩
            case hS48u => assumption
            try simp only [Act.put, List.setIfInBounds_toArray, List.set_cons_zero, List.set_cons_succ]
            refine wpAnyH_take (i := 49) (oi := ?oi49u) (v := undef) ?hi49u ?hs49u ?hf49u ?hr49u ?hQ49u ?hy49u ?hS49u ?h49u
            case hi49u => exact (by simp only [List.getElem?_toArray, List.getElem?_cons_succ, List.getElem?_cons_zero]; rfl)
            case hs49u => kernel_rfl
            case hf49u => kernel_rfl
            case hr49u => kernel_rfl
            case hQ49u => exact fun _ _ _ h => h
            case hy49u =>
              exact Or.inr ⟨rfl, rfl⟩
            case hS49u => assumption
            try simp only [Act.put, List.setIfInBounds_toArray, List.set_cons_zero, List.set_cons_succ]
            refine wpAnyH_take (i := 50) (oi := ?oi50u) (v := (.bool false)) ?hi50u ?hs50u ?hf50u ?hr50u ?hQ50u ?hy50u ?hS50u ?h50u
            case hi50u => exact (by simp only [List.getElem?_toArray, List.getElem?_cons_succ, List.getElem?_cons_zero]; rfl)
            case hs50u => kernel_rfl
            case hf50u => kernel_rfl
            case hr50u => kernel_rfl
            case hQ50u => exact fun _ _ _ h => h
            case hy50u =>
              refine Or.inl ⟨rfl, ?_⟩
              intro W hSw
              have y0 : W.cell? ⟨bl, ol + i, none⟩ = some (.int .u32 (x : Int)) := hSw
              clear hSw
              go_simp
              all_goals first | with_reducible rfl | (simp; done) | (have hz := HI0.out; omega) | (have hz := HI0.out; simp [hz]; done) | (have hz := HI0.out; simp; omega)
            case hS50u => assumption
            try simp only [Act.put, List.setIfInBounds_toArray, List.set_cons_zero, List.set_cons_succ]
            refine wpAnyH_take (i := 51) (oi := ?oi51u) (v := (.bool false)) ?hi51u ?hs51u ?hf51u ?hr51u ?hQ51u ?hy51u ?hS51u ?h51u
            case hi51u => exact (by simp only [List.getElem?_toArray, List.getElem?_cons_succ, List.getElem?_cons_zero]; rfl)
            case hs51u => kernel_rfl
            case hf51u => kernel_rfl
            case hr51u => kernel_rfl
            case hQ51u => exact fun _ _ _ h => h
            case hy51u =>
              refine Or.inl ⟨rfl, ?_⟩
              intro W hSw
              have y0 : W.cell? ⟨bl, ol + i, none⟩ = some (.int .u32 (x : Int)) := hSw
              clear hSw
              go_simp
              all_goals first | with_reducible rfl | (simp; done) | (have hz := HI0.out; omega) | (have hz := HI0.out; simp [hz]; done) | (have hz := HI0.out; simp; omega)
            case hS51u => assumption
            try simp only [Act.put, List.setIfInBounds_toArray, List.set_cons_zero, List.set_cons_succ]
            refine wpAnyH_done (by kernel_rfl) ?_ _
            try go_wp2
            go_roundw
            case rel => exact ⟨i + 1, by omega, by go_num, HIA.out.after HBu2.out, HIB.out.after HBu2.out, HLS.out.after HBu2.out, HB.out.trans (HBu2.out.mono HB.out.size)⟩
            case measure => simp [intOf] <;> omega
          · obtain ⟨j, hj⟩ : ∃ j, j + 1 = i := ⟨i - 1, by omega⟩
            obtain ⟨xp, hxp⟩ : ∃ xp, idb[j]? = some xp := ⟨idb[j]'(by rw [← HP.out]; omega), List.getElem?_eq_getElem _⟩
            have hlx : xp < x := HIA.out.up j i xp x (by omega) hxp HXE.out
            have HZ : Hid (∀ W, Below wr.heap.size wr W → W.cell? ⟨bl, ol + j, none⟩ = some (.int .u32 (xp : Int))) := fun W hW => (hW.cell (p := ⟨bl, _, none⟩) HBL.out).trans (HAL.out j xp hxp)
            have hsub : IntKind.i64.wrap ((i : Int) - 1) = (j : Int) := by rw [IntKind.wrap_i64]; omega
            have hi1 : 0 < i := by omega
            have hjp : j < p := by omega
            have HJ := Lib.hid hj
            clear hxp hj
            go_upto_region 19 with (fail)
            have HDv : Hid (Below wr.heap.size wr wr.drew) := HBr.out.drew
            refine wp_region_held_drew (S := fun W : World => W.cell? ⟨bl, ol + i, none⟩ = some (.int .u32 (x : Int)) ∧ W.cell? ⟨bl, ol + j, none⟩ = some (.int .u32 (xp : Int))) (by kernel_rfl) (⟨HX.out _ (HDv.out), HZ.out _ (HDv.out)⟩) (fun hHeld => ?_)
            obtain ⟨Wv0, hW0⟩ : ∃ W0, W0 = wr.drew := ⟨_, rfl⟩
            rw [← hW0] at hHeld HDv ⊢
            clear hW0
            refine wpAnyH_take (i := 0) (oi := ?oi0v) (v := ?v0v) ?hi0v ?hs0v ?hf0v ?hr0v ?hQ0v ?hy0v ?hS0v ?h0v
            case hi0v => exact (by simp only [List.getElem?_toArray, List.getElem?_cons_zero]; rfl)
            case hs0v => kernel_rfl
            case hf0v => kernel_rfl
            case hr0v => kernel_rfl
            case hQ0v => exact fun _ _ _ h => h
            case hy0v =>
              refine Or.inl ⟨rfl, ?_⟩
              intro W hSw
              obtain ⟨y0, y1⟩ := hSw
              go_simp
              try with_reducible rfl
            case hS0v => assumption
            try simp only [Act.put, List.setIfInBounds_toArray, List.set_cons_zero, List.set_cons_succ]
            refine wpAnyH_take (i := 1) (oi := ?oi1v) (v := (.bool false)) ?hi1v ?hs1v ?hf1v ?hr1v ?hQ1v ?hy1v ?hS1v ?h1v
            case hi1v => exact (by simp only [List.getElem?_toArray, List.getElem?_cons_succ, List.getElem?_cons_zero]; rfl)
            case hs1v => kernel_rfl
            case hf1v => kernel_rfl
            case hr1v => kernel_rfl
            case hQ1v => exact fun _ _ _ h => h
            case hy1v =>
              refine Or.inl ⟨rfl, ?_⟩
              intro W hSw
              obtain ⟨y0, y1⟩ := hSw
              go_simp
              all_goals first | with_reducible rfl | (simp; done) | (simp; omega) | omega
            case hS1v => assumption
            try simp only [Act.put, List.setIfInBounds_toArray, List.set_cons_zero, List.set_cons_succ]
            refine wpAnyH_take (i := 2) (oi := ?oi2v) (v := (.bool false)) ?hi2v ?hs2v ?hf2v ?hr2v ?hQ2v ?hy2v ?hS2v ?h2v
            case hi2v => exact (by simp only [List.getElem?_toArray, List.getElem?_cons_succ, List.getElem?_cons_zero]; rfl)
            case hs2v => kernel_rfl
            case hf2v => kernel_rfl
            case hr2v => kernel_rfl
            case hQ2v => exact fun _ _ _ h => h
            case hy2v =>
              refine Or.inl ⟨rfl, ?_⟩
              intro W hSw
              obtain ⟨y0, y1⟩ := hSw
              go_simp
              all_goals first | with_reducible rfl | (simp; done) | (simp; omega) | omega
            case hS2v => assumption
            try simp only [Act.put, List.setIfInBounds_toArray, List.set_cons_zero, List.set_cons_succ]
            refine wpAnyH_take (i := 3) (oi := ?oi3v) (v := ?v3v) ?hi3v ?hs3v ?hf3v ?hr3v ?hQ3v ?hy3v ?hS3v ?h3v
            case hi3v => exact (by simp only [List.getElem?_toArray, List.getElem?_cons_succ, List.getElem?_cons_zero]; rfl)
            case hs3v => kernel_rfl
            case hf3v => kernel_rfl
            case hr3v => kernel_rfl
            case hQ3v => exact fun _ _ _ h => h
            case hy3v =>
              refine Or.inl ⟨rfl, ?_⟩
              intro W hSw
              obtain ⟨y0, y1⟩ := hSw
              go_simp
              try with_reducible rfl
            case hS3v => assumption
            try simp only [Act.put, List.setIfInBounds_toArray, List.set_cons_zero, List.set_cons_succ]
            refine wpAnyH_take (i := 4) (oi := ?oi4v) (v := (.bool false)) ?hi4v ?hs4v ?hf4v ?hr4v ?hQ4v ?hy4v ?hS4v ?h4v
            case hi4v => exact (by simp only [List.getElem?_toArray, List.getElem?_cons_succ, List.getElem?_cons_zero]; rfl)
            case hs4v => kernel_rfl
            case hf4v => kernel_rfl
            case hr4v => kernel_rfl
            case hQ4v => exact fun _ _ _ h => h
            case hy4v =>
              refine Or.inl ⟨rfl, ?_⟩
              intro W hSw
              obtain ⟨y0, y1⟩ := hSw
              go_simp
              all_goals first | with_reducible rfl | (simp; done) | (simp; omega) | omega
            case hS4v => assumption
            try simp only [Act.put, List.setIfInBounds_toArray, List.set_cons_zero, List.set_cons_succ]
            refine wpAnyH_take (i := 5) (oi := ?oi5v) (v := (.bool false)) ?hi5v ?hs5v ?hf5v ?hr5v ?hQ5v ?hy5v ?hS5v ?h5v
            case hi5v => exact (by simp only [List.getElem?_toArray, List.getElem?_cons_succ, List.getElem?_cons_zero]; rfl)
            case hs5v => kernel_rfl
            case hf5v => kernel_rfl
            case hr5v => kernel_rfl
            case hQ5v => exact fun _ _ _ h => h
            case hy5v =>
              refine Or.inl ⟨rfl, ?_⟩
              intro W hSw
              obtain ⟨y0, y1⟩ := hSw
              go_simp
              all_goals first | with_reducible rfl | (simp; done) | (simp; omega) | omega
            case hS5v => assumption
            try simp only [Act.put, List.setIfInBounds_toArray, List.set_cons_zero, List.set_cons_succ]
            refine wpAnyH_take (i := 6) (oi := ?oi6v) (v := (.bool false)) ?hi6v ?hs6v ?hf6v ?hr6v ?hQ6v ?hy6v ?hS6v ?h6v
            case hi6v => exact (by simp only [List.getElem?_toArray, List.getElem?_cons_succ, List.getElem?_cons_zero]; rfl)
            case hs6v => kernel_rfl
            case hf6v => kernel_rfl
            case hr6v => kernel_rfl
            case hQ6v => exact fun _ _ _ h => h
            case hy6v =>
              refine Or.inl ⟨rfl, ?_⟩
              intro W hSw
              obtain ⟨y0, y1⟩ := hSw
              go_simp
              all_goals first | with_reducible rfl | (simp; done) | (simp; omega) | omega
            case hS6v => assumption
            try simp only [Act.put, List.setIfInBounds_toArray, List.set_cons_zero, List.set_cons_succ]
            refine wpAnyH_take (i := 7) (oi := ?oi7v) (v := ?v7v) ?hi7v ?hs7v ?hf7v ?hr7v ?hQ7v ?hy7v ?hS7v ?h7v
            case hi7v => exact (by simp only [List.getElem?_toArray, List.getElem?_cons_succ, List.getElem?_cons_zero]; rfl)
            case hs7v => kernel_rfl
            case hf7v => kernel_rfl
            case hr7v => kernel_rfl
            case hQ7v => exact fun _ _ _ h => h
            case hy7v =>
              refine Or.inl ⟨rfl, ?_⟩
              intro W hSw
              obtain ⟨y0, y1⟩ := hSw
              go_simp
              try with_reducible rfl
            case hS7v => assumption
            try simp only [Act.put, List.setIfInBounds_toArray, List.set_cons_zero, List.set_cons_succ]
            refine wpAnyH_take (i := 8) (oi := ?oi8v) (v := ?v8v) ?hi8v ?hs8v ?hf8v ?hr8v ?hQ8v ?hy8v ?hS8v ?h8v
            case hi8v => exact (by simp only [List.getElem?_toArray, List.getElem?_cons_succ, List.getElem?_cons_zero]; rfl)
            case hs8v => kernel_rfl
            case hf8v => kernel_rfl
            case hr8v => kernel_rfl
            case hQ8v => exact fun _ _ _ h => h
            case hy8v =>
              refine Or.inl ⟨rfl, ?_⟩
              intro W hSw
              obtain ⟨y0, y1⟩ := hSw
              go_simp
              try with_reducible rfl
            case hS8v => assumption
            try simp only [Act.put, List.setIfInBounds_toArray, List.set_cons_zero, List.set_cons_succ]
            refine wpAnyH_take (i := 9) (oi := ?oi9v) (v := (.bool false)) ?hi9v ?hs9v ?hf9v ?hr9v ?hQ9v ?hy9v ?hS9v ?h9v
            case hi9v => exact (by simp only [List.getElem?_toArray, List.getElem?_cons_succ, List.getElem?_cons_zero]; rfl)
            case hs9v => kernel_rfl
            case hf9v => kernel_rfl
            case hr9v => kernel_rfl
            case hQ9v => exact fun _ _ _ h => h
            case hy9v =>
              refine Or.inl ⟨rfl, ?_⟩
              intro W hSw
              obtain ⟨y0, y1⟩ := hSw
              go_simp
              all_goals first | with_reducible rfl | (simp; done) | (simp; omega) | omega
            case hS9v => assumption
            try simp only [Act.put, List.setIfInBounds_toArray, List.set_cons_zero, List.set_cons_succ]
            refine wpAnyH_take (i := 10) (oi := ?oi10v) (v := (.bool false)) ?hi10v ?hs10v ?hf10v ?hr10v ?hQ10v ?hy10v ?hS10v ?h10v
            case hi10v => exact (by simp only [List.getElem?_toArray, List.getElem?_cons_succ, List.getElem?_cons_zero]; rfl)
            case hs10v => kernel_rfl
            case hf10v => kernel_rfl
            case hr10v => kernel_rfl
            case hQ10v => exact fun _ _ _ h => h
            case hy10v =>
              refine Or.inl ⟨rfl, ?_⟩
              intro W hSw
              obtain ⟨y0, y1⟩ := hSw
              go_simp
              all_goals first | with_reducible rfl | (simp; done) | (simp; omega) | omega
            case hS10v => assumption
            try simp only [Act.put, List.setIfInBounds_toArray, List.set_cons_zero, List.set_cons_succ]
            refine wpAnyH_take (i := 11) (oi := ?oi11v) (v := (.bool false)) ?hi11v ?hs11v ?hf11v ?hr11v ?hQ11v ?hy11v ?hS11v ?h11v
            case hi11v => exact (by simp only [List.getElem?_toArray, List.getElem?_cons_succ, List.getElem?_cons_zero]; rfl)
            case hs11v => kernel_rfl
            case hf11v => kernel_rfl
            case hr11v => kernel_rfl
            case hQ11v => exact fun _ _ _ h => h
            case hy11v =>
              refine Or.inl ⟨rfl, ?_⟩
              intro W hSw
              obtain ⟨y0, y1⟩ := hSw
              go_simp
              all_goals first | with_reducible rfl | (simp; done) | (simp; omega) | omega
            case hS11v => assumption
            try simp only [Act.put, List.setIfInBounds_toArray, List.set_cons_zero, List.set_cons_succ]
            refine wpAnyH_take (i := 12) (oi := ?oi12v) (v := ?v12v) ?hi12v ?hs12v ?hf12v ?hr12v ?hQ12v ?hy12v ?hS12v ?h12v
            case hi12v => exact (by simp only [List.getElem?_toArray, List.getElem?_cons_succ, List.getElem?_cons_zero]; rfl)
            case hs12v => kernel_rfl
            case hf12v => kernel_rfl
            case hr12v => kernel_rfl
            case hQ12v => exact fun _ _ _ h => h
            case hy12v =>
              refine Or.inl ⟨rfl, ?_⟩
              intro W hSw
              obtain ⟨y0, y1⟩ := hSw
              go_simp
              try with_reducible rfl
            case hS12v => assumption
            try simp only [Act.put, List.setIfInBounds_toArray, List.set_cons_zero, List.set_cons_succ]
            refine wpAnyH_take (i := 13) (oi := ?oi13v) (v := ?v13v) ?hi13v ?hs13v ?hf13v ?hr13v ?hQ13v ?hy13v ?hS13v ?h13v
            case hi13v => exact (by simp only [List.getElem?_toArray, List.getElem?_cons_succ, List.getElem?_cons_zero]; rfl)
            case hs13v => kernel_rfl
            case hf13v => kernel_rfl
            case hr13v => kernel_rfl
            case hQ13v => exact fun _ _ _ h => h
            case hy13v =>
              refine Or.inl ⟨rfl, ?_⟩
              intro W hSw
              obtain ⟨y0, y1⟩ := hSw
              go_simp
              try with_reducible rfl
            case hS13v => assumption
            try simp only [Act.put, List.setIfInBounds_toArray, List.set_cons_zero, List.set_cons_succ]
            refine wpAnyH_take (i := 14) (oi := ?oi14v) (v := ?v14v) ?hi14v ?hs14v ?hf14v ?hr14v ?hQ14v ?hy14v ?hS14v ?h14v
            case hi14v => exact (by simp only [List.getElem?_toArray, List.getElem?_cons_succ, List.getElem?_cons_zero]; rfl)
            case hs14v => kernel_rfl
            case hf14v => kernel_rfl
            case hr14v => kernel_rfl
            case hQ14v => exact fun _ _ _ h => h
            case hy14v =>
              refine Or.inl ⟨rfl, ?_⟩
              intro W hSw
              obtain ⟨y0, y1⟩ := hSw
              go_simp
              try with_reducible rfl
            case hS14v => assumption
            try simp only [Act.put, List.setIfInBounds_toArray, List.set_cons_zero, List.set_cons_succ]
            refine wpAnyH_take (i := 15) (oi := ?oi15v) (v := ?v15v) ?hi15v ?hs15v ?hf15v ?hr15v ?hQ15v ?hy15v ?hS15v ?h15v
            case hi15v => exact (by simp only [List.getElem?_toArray, List.getElem?_cons_succ, List.getElem?_cons_zero]; rfl)
            case hs15v => kernel_rfl
            case hf15v => kernel_rfl
            case hr15v => kernel_rfl
            case hQ15v => exact fun _ _ _ h => h
            case hy15v =>
              refine Or.inl ⟨rfl, ?_⟩
              intro W hSw
              obtain ⟨y0, y1⟩ := hSw
              go_simp
              try with_reducible rfl
            case hS15v => assumption
            try simp only [Act.put, List.setIfInBounds_toArray, List.set_cons_zero, List.set_cons_succ]
            refine wpAnyH_take (i := 16) (oi := ?oi16v) (v := ?v16v) ?hi16v ?hs16v ?hf16v ?hr16v ?hQ16v ?hy16v ?hS16v ?h16v
            case hi16v => exact (by simp only [List.getElem?_toArray, List.getElem?_cons_succ, List.getElem?_cons_zero]; rfl)
            case hs16v => kernel_rfl
            case hf16v => kernel_rfl
            case hr16v => kernel_rfl
            case hQ16v => exact fun _ _ _ h => h
            case hy16v =>
              refine Or.inl ⟨rfl, ?_⟩
              intro W hSw
              obtain ⟨y0, y1⟩ := hSw
              go_simp
              try with_reducible rfl
            case hS16v => assumption
            try simp only [Act.put, List.setIfInBounds_toArray, List.set_cons_zero, List.set_cons_succ]
            refine wpAnyH_take (i := 17) (oi := ?oi17v) (v := ?v17v) ?hi17v ?hs17v ?hf17v ?hr17v ?hQ17v ?hy17v ?hS17v ?h17v
            case hi17v => exact (by simp only [List.getElem?_toArray, List.getElem?_cons_succ, List.getElem?_cons_zero]; rfl)
            case hs17v => kernel_rfl
            case hf17v => kernel_rfl
            case hr17v => kernel_rfl
            case hQ17v => exact fun _ _ _ h => h
            case hy17v =>
              refine Or.inl ⟨rfl, ?_⟩
              intro W hSw
              obtain ⟨y0, y1⟩ := hSw
              go_simp
              try with_reducible rfl
            case hS17v => assumption
            try simp only [Act.put, List.setIfInBounds_toArray, List.set_cons_zero, List.set_cons_succ]
            refine wpAnyH_take (i := 18) (oi := ?oi18v) (v := ?v18v) ?hi18v ?hs18v ?hf18v ?hr18v ?hQ18v ?hy18v ?hS18v ?h18v
            case hi18v => exact (by simp only [List.getElem?_toArray, List.getElem?_cons_succ, List.getElem?_cons_zero]; rfl)
            case hs18v => kernel_rfl
            case hf18v => kernel_rfl
            case hr18v => kernel_rfl
            case hQ18v => exact fun _ _ _ h => h
            case hy18v =>
              refine Or.inl ⟨rfl, ?_⟩
              intro W hSw
              obtain ⟨y0, y1⟩ := hSw
              go_simp
              try with_reducible rfl
            case hS18v => assumption
            try simp only [Act.put, List.setIfInBounds_toArray, List.set_cons_zero, List.set_cons_succ]
            refine wpAnyH_take (i := 19) (oi := ?oi19v) (v := ?v19v) ?hi19v ?hs19v ?hf19v ?hr19v ?hQ19v ?hy19v ?hS19v ?h19v
            case hi19v => exact (by simp only [List.getElem?_toArray, List.getElem?_cons_succ, List.getElem?_cons_zero]; rfl)
            case hs19v => kernel_rfl
            case hf19v => kernel_rfl
            case hr19v => kernel_rfl
            case hQ19v => exact fun _ _ _ h => h
            case hy19v =>
              refine Or.inl ⟨rfl, ?_⟩
              intro W hSw
              obtain ⟨y0, y1⟩ := hSw
              go_simp
              try with_reducible rfl
            case hS19v => assumption
            try simp only [Act.put, List.setIfInBounds_toArray, List.set_cons_zero, List.set_cons_succ]
            refine wpAnyH_take (i := 20) (oi := ?oi20v) (v := ?v20v) ?hi20v ?hs20v ?hf20v ?hr20v ?hQ20v ?hy20v ?hS20v ?h20v
            case hi20v => exact (by simp only [List.getElem?_toArray, List.getElem?_cons_succ, List.getElem?_cons_zero]; rfl)
            case hs20v => kernel_rfl
            case hf20v => kernel_rfl
            case hr20v => kernel_rfl
            case hQ20v => exact fun _ _ _ h => h
            case hy20v =>
              refine Or.inl ⟨rfl, ?_⟩
              intro W hSw
              obtain ⟨y0, y1⟩ := hSw
              go_simp
              try with_reducible rfl
            case hS20v => assumption
            try simp only [Act.put, List.setIfInBounds_toArray, List.set_cons_zero, List.set_cons_succ]
            refine wpAnyH_take (i := 21) (oi := ?oi21v) (v := ?v21v) ?hi21v ?hs21v ?hf21v ?hr21v ?hQ21v ?hy21v ?hS21v ?h21v
            case hi21v => exact (by simp only [List.getElem?_toArray, List.getElem?_cons_succ, List.getElem?_cons_zero]; rfl)
            case hs21v => kernel_rfl
            case hf21v => kernel_rfl
            case hr21v => kernel_rfl
            case hQ21v => exact fun _ _ _ h => h
            case hy21v =>
              refine Or.inl ⟨rfl, ?_⟩
              intro W hSw
              obtain ⟨y0, y1⟩ := hSw
              go_simp
              try with_reducible rfl
            case hS21v => assumption
            try simp only [Act.put, List.setIfInBounds_toArray, List.set_cons_zero, List.set_cons_succ]
            refine wpAnyH_take (i := 22) (oi := ?oi22v) (v := ?v22v) ?hi22v ?hs22v ?hf22v ?hr22v ?hQ22v ?hy22v ?hS22v ?h22v
            case hi22v => exact (by simp only [List.getElem?_toArray, List.getElem?_cons_succ, List.getElem?_cons_zero]; rfl)
            case hs22v => kernel_rfl
            case hf22v => kernel_rfl
            case hr22v => kernel_rfl
            case hQ22v => exact fun _ _ _ h => h
            case hy22v =>
              refine Or.inl ⟨rfl, ?_⟩
              intro W hSw
              obtain ⟨y0, y1⟩ := hSw
              go_simp
              try with_reducible rfl
            case hS22v => assumption
            try simp only [Act.put, List.setIfInBounds_toArray, List.set_cons_zero, List.set_cons_succ]
            refine wpAnyH_take (i := 23) (oi := ?oi23v) (v := ?v23v) ?hi23v ?hs23v ?hf23v ?hr23v ?hQ23v ?hy23v ?hS23v ?h23v
            case hi23v => exact (by simp only [List.getElem?_toArray, List.getElem?_cons_succ, List.getElem?_cons_zero]; rfl)
            case hs23v => kernel_rfl
            case hf23v => kernel_rfl
            case hr23v => kernel_rfl
            case hQ23v => exact fun _ _ _ h => h
            case hy23v =>
              refine Or.inl ⟨rfl, ?_⟩
              intro W hSw
              obtain ⟨y0, y1⟩ := hSw
              go_simp
              try with_reducible rfl
            case hS23v => assumption
            try simp only [Act.put, List.setIfInBounds_toArray, List.set_cons_zero, List.set_cons_succ]
            refine wpAnyH_ready (rs := [24]) (by kernel_rfl) (by simp) ?_
            refine AllReadyH.cons (o := _) rfl (fun K hK => ?_) AllReadyH.nil
            go_simp
            refine hK.out _ _ (⟨HX.out _ (HDv.out.alloc HDv.out.size _), HZ.out _ (HDv.out.alloc HDv.out.size _)⟩) (fun hHeld => ?_)
            clear hK K
            try simp only [Act.put, List.setIfInBounds_toArray, List.set_cons_zero, List.set_cons_succ]
            have hCq := conv2 x Wv0
            obtain ⟨Wv1, hW1⟩ : ∃ W1, W1 = Wv0.alloc (.cells #[.int .u8 ((x : Int) % 256), .int .u8 ((x : Int) / 256 % 256)] 5) := ⟨_, rfl⟩
            have HBv1 : Hid (Below wr.heap.size wr Wv1) := by rw [hW1]; exact HDv.out.alloc HDv.out.size _
            rw [← hW1] at hCq hHeld ⊢
            clear hW1
            refine wpAnyH_ready (rs := [25]) (by kernel_rfl) (by simp) ?_
            refine AllReadyH.cons (o := _) rfl (fun K hK => ?_) AllReadyH.nil
            go_simp
            clear hCq
            refine hK.out _ _ (⟨HX.out _ (HBv1.out), HZ.out _ (HBv1.out)⟩) (fun hHeld => ?_)
            clear hK K
            try simp only [Act.put, List.setIfInBounds_toArray, List.set_cons_zero, List.set_cons_succ]
            refine wpAnyH_take (i := 26) (oi := ?oi26v) (v := (.bool false)) ?hi26v ?hs26v ?hf26v ?hr26v ?hQ26v ?hy26v ?hS26v ?h26v
            case hi26v => exact (by simp only [List.getElem?_toArray, List.getElem?_cons_succ, List.getElem?_cons_zero]; rfl)
            case hs26v => kernel_rfl
            case hf26v => kernel_rfl
            case hr26v => kernel_rfl
            case hQ26v => exact fun _ _ _ h => h
            case hy26v =>
              refine Or.inl ⟨rfl, ?_⟩
              intro W hSw
              obtain ⟨y0, y1⟩ := hSw
              go_simp
              all_goals first | with_reducible rfl | (simp; done) | (simp; omega) | omega
            case hS26v => assumption
            try simp only [Act.put, List.setIfInBounds_toArray, List.set_cons_zero, List.set_cons_succ]
            refine wpAnyH_take (i := 27) (oi := ?oi27v) (v := (.bool false)) ?hi27v ?hs27v ?hf27v ?hr27v ?hQ27v ?hy27v ?hS27v ?h27v
            case hi27v => exact (by simp only [List.getElem?_toArray, List.getElem?_cons_succ, List.getElem?_cons_zero]; rfl)
            case hs27v => kernel_rfl
            case hf27v => kernel_rfl
            case hr27v => kernel_rfl
            case hQ27v => exact fun _ _ _ h => h
            case hy27v =>
              refine Or.inl ⟨rfl, ?_⟩
              intro W hSw
              obtain ⟨y0, y1⟩ := hSw
              go_simp
              all_goals first | with_reducible rfl | (simp; done) | (simp; omega) | omega
            case hS27v => assumption
            try simp only [Act.put, List.setIfInBounds_toArray, List.set_cons_zero, List.set_cons_succ]
            refine wpAnyH_take (i := 28) (oi := ?oi28v) (v := (.bool false)) ?hi28v ?hs28v ?hf28v ?hr28v ?hQ28v ?hy28v ?hS28v ?h28v
            case hi28v => exact (by simp only [List.getElem?_toArray, List.getElem?_cons_succ, List.getElem?_cons_zero]; rfl)
            case hs28v => kernel_rfl
            case hf28v => kernel_rfl
            case hr28v => kernel_rfl
            case hQ28v => exact fun _ _ _ h => h
            case hy28v =>
              refine Or.inl ⟨rfl, ?_⟩
              intro W hSw
              obtain ⟨y0, y1⟩ := hSw
              go_simp
              all_goals first | with_reducible rfl | (simp; done) | (simp; omega) | omega
            case hS28v => assumption
            try simp only [Act.put, List.setIfInBounds_toArray, List.set_cons_zero, List.set_cons_succ]
            refine wpAnyH_take (i := 29) (oi := ?oi29v) (v := ?v29v) ?hi29v ?hs29v ?hf29v ?hr29v ?hQ29v ?hy29v ?hS29v ?h29v
            case hi29v => exact (by simp only [List.getElem?_toArray, List.getElem?_cons_succ, List.getElem?_cons_zero]; rfl)
            case hs29v => kernel_rfl
            case hf29v => kernel_rfl
            case hr29v => kernel_rfl
            case hQ29v => exact fun _ _ _ h => h
            case hy29v =>
              refine Or.inl ⟨rfl, ?_⟩
              intro W hSw
              obtain ⟨y0, y1⟩ := hSw
              go_simp
              try with_reducible rfl
            case hS29v => assumption
            try simp only [Act.put, List.setIfInBounds_toArray, List.set_cons_zero, List.set_cons_succ]
            refine wpAnyH_take (i := 30) (oi := ?oi30v) (v := ?v30v) ?hi30v ?hs30v ?hf30v ?hr30v ?hQ30v ?hy30v ?hS30v ?h30v
            case hi30v => exact (by simp only [List.getElem?_toArray, List.getElem?_cons_succ, List.getElem?_cons_zero]; rfl)
            case hs30v => kernel_rfl
            case hf30v => kernel_rfl
            case hr30v => kernel_rfl
            case hQ30v => exact fun _ _ _ h => h
            case hy30v =>
              refine Or.inl ⟨rfl, ?_⟩
              intro W hSw
              obtain ⟨y0, y1⟩ := hSw
              go_simp
              try with_reducible rfl
            case hS30v => assumption
            try simp only [Act.put, List.setIfInBounds_toArray, List.set_cons_zero, List.set_cons_succ]
            refine wpAnyH_take (i := 31) (oi := ?oi31v) (v := ?v31v) ?hi31v ?hs31v ?hf31v ?hr31v ?hQ31v ?hy31v ?hS31v ?h31v
            case hi31v => exact (by simp only [List.getElem?_toArray, List.getElem?_cons_succ, List.getElem?_cons_zero]; rfl)
            case hs31v => kernel_rfl
            case hf31v => kernel_rfl
            case hr31v => kernel_rfl
            case hQ31v => exact fun _ _ _ h => h
            case hy31v =>
              refine Or.inl ⟨rfl, ?_⟩
              intro W hSw
              obtain ⟨y0, y1⟩ := hSw
              go_simp
              try with_reducible rfl
            case hS31v => assumption
            try simp only [Act.put, List.setIfInBounds_toArray, List.set_cons_zero, List.set_cons_succ]
            refine wpAnyH_take (i := 32) (oi := ?oi32v) (v := ?v32v) ?hi32v ?hs32v ?hf32v ?hr32v ?hQ32v ?hy32v ?hS32v ?h32v
            case hi32v => exact (by simp only [List.getElem?_toArray, List.getElem?_cons_succ, List.getElem?_cons_zero]; rfl)
            case hs32v => kernel_rfl
            case hf32v => kernel_rfl
            case hr32v => kernel_rfl
            case hQ32v => exact fun _ _ _ h => h
            case hy32v =>
              refine Or.inl ⟨rfl, ?_⟩
              intro W hSw
              obtain ⟨y0, y1⟩ := hSw
              go_simp
              try with_reducible rfl
            case hS32v => assumption
            try simp only [Act.put, List.setIfInBounds_toArray, List.set_cons_zero, List.set_cons_succ]
            refine wpAnyH_ready (rs := [33]) (by kernel_rfl) (by simp) ?_
            refine AllReadyH.cons (o := _) rfl (fun K hK => ?_) AllReadyH.nil
            go_simp
            refine (HRT.out Wv1).mono ?_
            rintro r Wv2 ⟨rfl, hbq⟩
            have HBv2 := Lib.hid (HBv1.out.trans (hbq.mono HBv1.out.size))
            clear hbq
            refine hK.out _ _ (⟨HX.out _ (HBv2.out), HZ.out _ (HBv2.out)⟩) (fun hHeld => ?_)
            clear hK K
            try simp only [Act.put, List.setIfInBounds_toArray, List.set_cons_zero, List.set_cons_succ]
            refine wpAnyH_take (i := 34) (oi := ?oi34v) (v := (.bool false)) ?hi34v ?hs34v ?hf34v ?hr34v ?hQ34v ?hy34v ?hS34v ?h34v
            case hi34v => exact (by simp only [List.getElem?_toArray, List.getElem?_cons_succ, List.getElem?_cons_zero]; rfl)
            case hs34v => kernel_rfl
            case hf34v => kernel_rfl
            case hr34v => kernel_rfl
            case hQ34v => exact fun _ _ _ h => h
            case hy34v =>
              refine Or.inl ⟨rfl, ?_⟩
              intro W hSw
              obtain ⟨y0, y1⟩ := hSw
              go_simp
              all_goals first | with_reducible rfl | (simp; done) | (simp; omega) | omega
            case hS34v => assumption
            try simp only [Act.put, List.setIfInBounds_toArray, List.set_cons_zero, List.set_cons_succ]
            refine wpAnyH_take (i := 35) (oi := ?oi35v) (v := (.bool false)) ?hi35v ?hs35v ?hf35v ?hr35v ?hQ35v ?hy35v ?hS35v ?h35v
            case hi35v => exact (by simp only [List.getElem?_toArray, List.getElem?_cons_succ, List.getElem?_cons_zero]; rfl)
            case hs35v => kernel_rfl
            case hf35v => kernel_rfl
            case hr35v => kernel_rfl
            case hQ35v => exact fun _ _ _ h => h
            case hy35v =>
              refine Or.inl ⟨rfl, ?_⟩
              intro W hSw
              obtain ⟨y0, y1⟩ := hSw
              go_simp
              all_goals first | with_reducible rfl | (simp; done) | (simp; omega) | omega
            case hS35v => assumption
            try simp only [Act.put, List.setIfInBounds_toArray, List.set_cons_zero, List.set_cons_succ]
            refine wpAnyH_take (i := 36) (oi := ?oi36v) (v := (.bool false)) ?hi36v ?hs36v ?hf36v ?hr36v ?hQ36v ?hy36v ?hS36v ?h36v
            case hi36v => exact (by simp only [List.getElem?_toArray, List.getElem?_cons_succ, List.getElem?_cons_zero]; rfl)
            case hs36v => kernel_rfl
            case hf36v => kernel_rfl
            case hr36v => kernel_rfl
            case hQ36v => exact fun _ _ _ h => h
            case hy36v =>
              refine Or.inl ⟨rfl, ?_⟩
              intro W hSw
              obtain ⟨y0, y1⟩ := hSw
              go_simp
              all_goals first | with_reducible rfl | (simp; done) | (simp; omega) | omega
            case hS36v => assumption
            try simp only [Act.put, List.setIfInBounds_toArray, List.set_cons_zero, List.set_cons_succ]
            refine wpAnyH_take (i := 37) (oi := ?oi37v) (v := ?v37v) ?hi37v ?hs37v ?hf37v ?hr37v ?hQ37v ?hy37v ?hS37v ?h37v
            case hi37v => exact (by simp only [List.getElem?_toArray, List.getElem?_cons_succ, List.getElem?_cons_zero]; rfl)
            case hs37v => kernel_rfl
            case hf37v => kernel_rfl
            case hr37v => kernel_rfl
            case hQ37v => exact fun _ _ _ h => h
            case hy37v =>
              refine Or.inl ⟨rfl, ?_⟩
              intro W hSw
              obtain ⟨y0, y1⟩ := hSw
              go_simp
              try with_reducible rfl
            case hS37v => assumption
            try simp only [Act.put, List.setIfInBounds_toArray, List.set_cons_zero, List.set_cons_succ]
            refine wpAnyH_take (i := 38) (oi := ?oi38v) (v := (.bool true)) ?hi38v ?hs38v ?hf38v ?hr38v ?hQ38v ?hy38v ?hS38v ?h38v
            case hi38v => exact (by simp only [List.getElem?_toArray, List.getElem?_cons_succ, List.getElem?_cons_zero]; rfl)
            case hs38v => kernel_rfl
            case hf38v => kernel_rfl
            case hr38v => kernel_rfl
            case hQ38v => exact fun _ _ _ h => h
            case hy38v =>
              refine Or.inl ⟨rfl, ?_⟩
              intro W hSw
              obtain ⟨y0, y1⟩ := hSw
              go_simp
              all_goals first | with_reducible rfl | (simp; done) | (simp; omega) | omega
            case hS38v => assumption
            try simp only [Act.put, List.setIfInBounds_toArray, List.set_cons_zero, List.set_cons_succ]
            refine wpAnyH_take (i := 39) (oi := ?oi39v) (v := (.bool true)) ?hi39v ?hs39v ?hf39v ?hr39v ?hQ39v ?hy39v ?hS39v ?h39v
            case hi39v => exact (by simp only [List.getElem?_toArray, List.getElem?_cons_succ, List.getElem?_cons_zero]; rfl)
            case hs39v => kernel_rfl
            case hf39v => kernel_rfl
            case hr39v => kernel_rfl
            case hQ39v => exact fun _ _ _ h => h
            case hy39v =>
              refine Or.inl ⟨rfl, ?_⟩
              intro W hSw
              obtain ⟨y0, y1⟩ := hSw
              go_simp
              all_goals first | with_reducible rfl | (simp; done) | (simp; omega) | omega
            case hS39v => assumption
            try simp only [Act.put, List.setIfInBounds_toArray, List.set_cons_zero, List.set_cons_succ]
            refine wpAnyH_take (i := 40) (oi := ?oi40v) (v := ?v40v) ?hi40v ?hs40v ?hf40v ?hr40v ?hQ40v ?hy40v ?hS40v ?h40v
            case hi40v => exact (by simp only [List.getElem?_toArray, List.getElem?_cons_succ, List.getElem?_cons_zero]; rfl)
            case hs40v => kernel_rfl
            case hf40v => kernel_rfl
            case hr40v => kernel_rfl
            case hQ40v => exact fun _ _ _ h => h
            case hy40v =>
              refine Or.inl ⟨rfl, ?_⟩
              intro W hSw
              obtain ⟨y0, y1⟩ := hSw
              go_simp
              try with_reducible rfl
            case hS40v => assumption
            try simp only [Act.put, List.setIfInBounds_toArray, List.set_cons_zero, List.set_cons_succ]
            refine wpAnyH_take (i := 41) (oi := ?oi41v) (v := ?v41v) ?hi41v ?hs41v ?hf41v ?hr41v ?hQ41v ?hy41v ?hS41v ?h41v
            case hi41v => exact (by simp only [List.getElem?_toArray, List.getElem?_cons_succ, List.getElem?_cons_zero]; rfl)
            case hs41v => kernel_rfl
            case hf41v => kernel_rfl
            case hr41v => kernel_rfl
            case hQ41v => exact fun _ _ _ h => h
            case hy41v =>
              refine Or.inl ⟨rfl, ?_⟩
              intro W hSw
              obtain ⟨y0, y1⟩ := hSw
              go_simp
              try with_reducible rfl
            case hS41v => assumption
            try simp only [Act.put, List.setIfInBounds_toArray, List.set_cons_zero, List.set_cons_succ]
            refine wpAnyH_take (i := 42) (oi := ?oi42v) (v := ?v42v) ?hi42v ?hs42v ?hf42v ?hr42v ?hQ42v ?hy42v ?hS42v ?h42v
            case hi42v => exact (by simp only [List.getElem?_toArray, List.getElem?_cons_succ, List.getElem?_cons_zero]; rfl)
            case hs42v => kernel_rfl
            case hf42v => kernel_rfl
            case hr42v => kernel_rfl
            case hQ42v => exact fun _ _ _ h => h
            case hy42v =>
              refine Or.inl ⟨rfl, ?_⟩
              intro W hSw
              obtain ⟨y0, y1⟩ := hSw
              go_simp
              try with_reducible rfl
            case hS42v => assumption
            try simp only [Act.put, List.setIfInBounds_toArray, List.set_cons_zero, List.set_cons_succ]
            refine wpAnyH_take (i := 43) (oi := ?oi43v) (v := ?v43v) ?hi43v ?hs43v ?hf43v ?hr43v ?hQ43v ?hy43v ?hS43v ?h43v
            case hi43v => exact (by simp only [List.getElem?_toArray, List.getElem?_cons_succ, List.getElem?_cons_zero]; rfl)
            case hs43v => kernel_rfl
            case hf43v => kernel_rfl
            case hr43v => kernel_rfl
            case hQ43v => exact fun _ _ _ h => h
            case hy43v =>
              refine Or.inl ⟨rfl, ?_⟩
              intro W hSw
              obtain ⟨y0, y1⟩ := hSw
              go_simp
              try with_reducible rfl
            case hS43v => assumption
            try simp only [Act.put, List.setIfInBounds_toArray, List.set_cons_zero, List.set_cons_succ]
            refine wpAnyH_take (i := 44) (oi := ?oi44v) (v := ?v44v) ?hi44v ?hs44v ?hf44v ?hr44v ?hQ44v ?hy44v ?hS44v ?h44v
            case hi44v => exact (by simp only [List.getElem?_toArray, List.getElem?_cons_succ, List.getElem?_cons_zero]; rfl)
            case hs44v => kernel_rfl
            case hf44v => kernel_rfl
            case hr44v => kernel_rfl
            case hQ44v => exact fun _ _ _ h => h
            case hy44v =>
              refine Or.inl ⟨rfl, ?_⟩
              intro W hSw
              obtain ⟨y0, y1⟩ := hSw
              go_simp
              try with_reducible rfl
            case hS44v => assumption
            try simp only [Act.put, List.setIfInBounds_toArray, List.set_cons_zero, List.set_cons_succ]
            refine wpAnyH_take (i := 45) (oi := ?oi45v) (v := ?v45v) ?hi45v ?hs45v ?hf45v ?hr45v ?hQ45v ?hy45v ?hS45v ?h45v
            case hi45v => exact (by simp only [List.getElem?_toArray, List.getElem?_cons_succ, List.getElem?_cons_zero]; rfl)
            case hs45v => kernel_rfl
            case hf45v => kernel_rfl
            case hr45v => kernel_rfl
            case hQ45v => exact fun _ _ _ h => h
            case hy45v =>
              refine Or.inl ⟨rfl, ?_⟩
              intro W hSw
              obtain ⟨y0, y1⟩ := hSw
              go_simp
              try with_reducible rfl
            case hS45v => assumption
            try simp only [Act.put, List.setIfInBounds_toArray, List.set_cons_zero, List.set_cons_succ]
            refine wpAnyH_take (i := 46) (oi := ?oi46v) (v := ?v46v) ?hi46v ?hs46v ?hf46v ?hr46v ?hQ46v ?hy46v ?hS46v ?h46v
            case hi46v => exact (by simp only [List.getElem?_toArray, List.getElem?_cons_succ, List.getElem?_cons_zero]; rfl)
            case hs46v => kernel_rfl
            case hf46v => kernel_rfl
            case hr46v => kernel_rfl
            case hQ46v => exact fun _ _ _ h => h
            case hy46v =>
              refine Or.inl ⟨rfl, ?_⟩
              intro W hSw
              obtain ⟨y0, y1⟩ := hSw
              go_simp
              try with_reducible rfl
            case hS46v => assumption
            try simp only [Act.put, List.setIfInBounds_toArray, List.set_cons_zero, List.set_cons_succ]
            refine wpAnyH_take (i := 47) (oi := ?oi47v) (v := ?v47v) ?hi47v ?hs47v ?hf47v ?hr47v ?hQ47v ?hy47v ?hS47v ?h47v
            case hi47v => exact (by simp only [List.getElem?_toArray, List.getElem?_cons_succ, List.getElem?_cons_zero]; rfl)
            case hs47v => kernel_rfl
            case hf47v => kernel_rfl
            case hr47v => kernel_rfl
            case hQ47v => exact fun _ _ _ h => h
            case hy47v =>
              refine Or.inl ⟨rfl, ?_⟩
              intro W hSw
              obtain ⟨y0, y1⟩ := hSw
              go_simp
              try with_reducible rfl
            case hS47v => assumption
            try simp only [Act.put, List.setIfInBounds_toArray, List.set_cons_zero, List.set_cons_succ]
            refine wpAnyH_take (i := 48) (oi := ?oi48v) (v := ?v48v) ?hi48v ?hs48v ?hf48v ?hr48v ?hQ48v ?hy48v ?hS48v ?h48v
            case hi48v => exact (by simp only [List.getElem?_toArray, List.getElem?_cons_succ, List.getElem?_cons_zero]; rfl)
            case hs48v => kernel_rfl
            case hf48v => kernel_rfl
            case hr48v => kernel_rfl
            case hQ48v => exact fun _ _ _ h => h
            case hy48v =>
              refine Or.inl ⟨rfl, ?_⟩
              intro W hSw
              obtain ⟨y0, y1⟩ := hSw
              go_simp
              try with_reducible rfl
            case hS48v => assumption
            try simp only [Act.put, List.setIfInBounds_toArray, List.set_cons_zero, List.set_cons_succ]
            refine wpAnyH_take (i := 49) (oi := ?oi49v) (v := (.bool false)) ?hi49v ?hs49v ?hf49v ?hr49v ?hQ49v ?hy49v ?hS49v ?h49v
            case hi49v => exact (by simp only [List.getElem?_toArray, List.getElem?_cons_succ, List.getElem?_cons_zero]; rfl)
            case hs49v => kernel_rfl
            case hf49v => kernel_rfl
            case hr49v => kernel_rfl
            case hQ49v => exact fun _ _ _ h => h
            case hy49v =>
              refine Or.inl ⟨rfl, ?_⟩
              intro W hSw
              obtain ⟨y0, y1⟩ := hSw
              go_simp
              all_goals first | with_reducible rfl | (simp; done) | (simp; omega) | omega
            case hS49v => assumption
            try simp only [Act.put, List.setIfInBounds_toArray, List.set_cons_zero, List.set_cons_succ]
            refine wpAnyH_take (i := 50) (oi := ?oi50v) (v := (.bool false)) ?hi50v ?hs50v ?hf50v ?hr50v ?hQ50v ?hy50v ?hS50v ?h50v
            case hi50v => exact (by simp only [List.getElem?_toArray, List.getElem?_cons_succ, List.getElem?_cons_zero]; rfl)
            case hs50v => kernel_rfl
            case hf50v => kernel_rfl
            case hr50v => kernel_rfl
            case hQ50v => exact fun _ _ _ h => h
            case hy50v =>
              refine Or.inl ⟨rfl, ?_⟩
              intro W hSw
              obtain ⟨y0, y1⟩ := hSw
              go_simp
              all_goals first | with_reducible rfl | (simp; done) | (simp; omega) | omega
            case hS50v => assumption
            try simp only [Act.put, List.setIfInBounds_toArray, List.set_cons_zero, List.set_cons_succ]
            refine wpAnyH_take (i := 51) (oi := ?oi51v) (v := (.bool false)) ?hi51v ?hs51v ?hf51v ?hr51v ?hQ51v ?hy51v ?hS51v ?h51v
            case hi51v => exact (by simp only [List.getElem?_toArray, List.getElem?_cons_succ, List.getElem?_cons_zero]; rfl)
            case hs51v => kernel_rfl
            case hf51v => kernel_rfl
            case hr51v => kernel_rfl
            case hQ51v => exact fun _ _ _ h => h
            case hy51v =>
              refine Or.inl ⟨rfl, ?_⟩
              intro W hSw
              obtain ⟨y0, y1⟩ := hSw
              go_simp
              all_goals first | with_reducible rfl | (simp; done) | (simp; omega) | omega
            case hS51v => assumption
            try simp only [Act.put, List.setIfInBounds_toArray, List.set_cons_zero, List.set_cons_succ]
            refine wpAnyH_done (by kernel_rfl) ?_ _
            try go_wp2
            go_roundw
            case rel => exact ⟨i + 1, by omega, by go_num, HIA.out.after HBv2.out, HIB.out.after HBv2.out, HLS.out.after HBv2.out, HB.out.trans (HBv2.out.mono HB.out.size)⟩
            case measure => simp [intOf] <;> omega
        · have hik : i = p := by omega
          subst hik
          go_wp2_with fail
          refine (rawake wr).mono ?_
          rintro r w9 ⟨rfl, hb9⟩
          go_wp2
          go_ret
          exact ⟨rfl, HB.out.trans (hb9.mono HB.out.size)⟩
end Go.Proofs.Ytbilkelbelimjaa.S
