/- Penal: a mark behind a hit, the program's. -/
import Derived.Test.YtfcogjdnnnpmdaaDoorN2
namespace Go.Proofs.YtfcogjdnnnpmdaaDoor
open Go.RowKit
set_option maxRecDepth 20000

def ladZ : List Int := [60, 300, 900, 3600, 14400, 86400]
def ladAt (k : Nat) : Int := ladZ.getD k 0
def Lw (w : World) : Prop := ∀ k, k < 6 → w.cell? ⟨0, k, none⟩ = some (.int .i64 (ladAt k))
theorem Lw.below {w W : World} {B : Nat} (h : Lw w) (hb : Below B w W) (hB : 0 < B) : Lw W := fun k hk => (hb.cell (p := ⟨0, k, none⟩) hB).trans (h k hk)
theorem ladAt_bd (k : Nat) (h : k < 6) : 60 ≤ ladAt k ∧ ladAt k ≤ 86400 := by
  have h2 : ∀ k : Fin 6, 60 ≤ ladAt k.1 ∧ ladAt k.1 ≤ 86400 := by decide
  exact h2 ⟨k, h⟩
/-- A level behind a hit. -/
def upL (L : Int) : Int := if 6 < L + 1 then 6 else L + 1
def hitL (l s now : Int) : Int := upL (atL l s now)
def ban (L now : Int) : Int := sadd now (ladAt (L - 1).toNat)
def hitU (l s u now : Int) : Int := max (atU l s u now) (ban (hitL l s now) now)
theorem atL_bd (l s now : Int) (h : 0 ≤ dwn s now) : 0 ≤ atL l s now ∧ atL l s now ≤ 6 := by
  have := lvl_bd l
  unfold atL
  split <;> omega
theorem sadd_bd (a d : Int) (ha : inI a) (h0 : 0 ≤ d) (h1 : d ≤ 1000000000) : inI (sadd a d) ∧ a ≤ sadd a d := by
  obtain ⟨h2, h3⟩ := ha
  unfold sadd inI
  split <;> omega
theorem dwn_nonneg (s now : Int) (hs : inI s) (hn : inI now) : 0 ≤ dwn s now := by
  have := btw_bd s now hs hn
  unfold dwn
  omega
theorem atU_in (l s u now : Int) (hu : inI u) : inI (atU l s u now) := by
  obtain ⟨h1, h2⟩ := hu
  unfold atU inI
  split <;> (try split) <;> omega

set_option linter.unusedSimpArgs false in
set_option maxHeartbeats 1000000 in
theorem hit_core (l s u now L S U M B R : Int) (w : World) (hlw : Lw w) (hz : 0 < w.heap.size) (hA : ∀ W, Calls Tryd.prog 10 #[mV l s u, .int .i64 now] W fun r w' => r = .returned (mV L S U) ∧ Below W.heap.size W w') (hL : 0 ≤ L ∧ L ≤ 6) (_hU : inI U) (hn : inI now) (hup : (6 < L + 1 ∧ M = 6) ∨ (¬ 6 < L + 1 ∧ M = L + 1)) (hB : B = ban M now) (hR : (U < B ∧ R = B) ∨ (¬ U < B ∧ R = U)) :
    Calls Tryd.prog 12 #[mV l s u, .int .i64 now] w fun r w' => r = .returned (mV M now R) ∧ Below w.heap.size w w' := by
  obtain ⟨w0, hw0⟩ : ∃ w0, w0 = (w.alloc (.cells (mC l s u) 24)).alloc (.cells (mC 0 0 0) 24) := ⟨_, rfl⟩
  have hb0 : Below w.heap.size w w0 := by rw [hw0]; exact ((Below.refl _ _).alloc (Nat.le_refl _) _).alloc (by simp) _
  have hp0 : w0.heap[w.heap.size]? = some (.cells (mC l s u) 24 (0, 0)) := by rw [hw0]; exact (Below.heap_alloc _ _ _ (by simp)).trans (heap_alloc_new w _)
  have hq0 : w0.heap[w.heap.size + 1]? = some (.cells (mC 0 0 0) 24 (0, 0)) := by
    have := heap_alloc_new (w.alloc (.cells (mC l s u) 24)) (.cells (mC 0 0 0) 24)
    rw [World.size_alloc] at this
    rw [hw0]; exact this
  have c0 := cell_of_row w0 w.heap.size 0 _ _ _ hp0
  have c1 := cell_of_row w0 w.heap.size 1 _ _ _ hp0
  have c2 := cell_of_row w0 w.heap.size 2 _ _ _ hp0
  simp at c0 c1 c2
  have HA := Lib.hid hA
  have H0 := Lib.hid hw0
  have HB0 := Lib.hid hb0
  have HP0 := Lib.hid hp0
  have HQ0 := Lib.hid hq0
  have HLW := Lib.hid hlw
  clear hA hw0 hp0 hq0 hb0 hlw
  obtain ⟨hL0, hL6⟩ := hL
  have hM1 : 1 ≤ M ∧ M ≤ 6 := by omega
  obtain ⟨j, hj⟩ : ∃ j : Nat, M - 1 = (j : Int) := ⟨(M - 1).toNat, by omega⟩
  have hj6 : j < 6 := by omega
  have HLC : Hid (∀ W, Below w.heap.size w W → W.cell? ⟨0, j, none⟩ = some (.int .i64 (ladAt j))) := fun W hb => HLW.out.below hb hz j hj6
  have HAD : Hid (∀ W, Calls Tryd.prog 31 #[.int .i64 now, .int .i64 (ladAt j)] W fun r w' => r = .returned (.int .i64 B) ∧ w' = W) := fun W => by
    have e : B = sadd now (ladAt j) := by rw [hB]; unfold ban; rw [show (M - 1).toNat = j by omega]
    rw [e]
    have := ladAt_bd j hj6
    exact tadd_any now (ladAt j) W hn (by omega) (by omega)
  generalize ladAt j = la at HLC HAD
  clear hB
  have hupm : (if 6 < L + 1 then 6 else L + 1) = M := by
    rcases hup with ⟨g, e⟩ | ⟨g, e⟩
    · rw [if_pos g, e]
    · rw [if_neg g, e]
  have HMX : Hid ((if U < B then B else U) = R) := by
    show _ = _
    rcases hR with ⟨g, e⟩ | ⟨g, e⟩
    · rw [if_pos g, e]
    · rw [if_neg g, e]
  clear hR
  go_enter Tryd.func12, Tryd.ntmps12
  go_upto_region 1 with (fail)
  rw [← H0.out]
  go_wp2_with fail
  refine (HA.out _).mono ?_
  rintro e w1 ⟨rfl, hb1⟩
  have hp1 : w1.heap[w.heap.size]? = some (.cells (mC l s u) 24 (0, 0)) := (hb1.block _ (lt_of_block HP0.out)).trans HP0.out
  have HQ1 : Hid (w1.heap[w.heap.size + 1]? = some (.cells (mC 0 0 0) 24 (0, 0))) := (hb1.block _ (lt_of_block HQ0.out)).trans HQ0.out
  have HB1 : Hid (Below w.heap.size w w1) := HB0.out.trans (hb1.mono HB0.out.size)
  have f0 : ∀ i, w1.frozen? ⟨w.heap.size, i, none⟩ = false := fun i => frozen_of_row w1 _ i _ _ hp1
  clear c0 c1 c2
  have c0 := cell_of_row w1 w.heap.size 0 _ _ _ hp1
  have c1 := cell_of_row w1 w.heap.size 1 _ _ _ hp1
  have c2 := cell_of_row w1 w.heap.size 2 _ _ _ hp1
  simp at c0 c1 c2
  have HP1 := Lib.hid hp1
  clear hp1 hb1
  go_upto_region 4 with (fail)
  obtain ⟨w2, hw2⟩ : ∃ w2, w2 = ((((w1.setCell ⟨w.heap.size, 0, none⟩ (.int .i64 L)).setCell ⟨w.heap.size, 1, none⟩ (.int .i64 S)).setCell ⟨w.heap.size, 2, none⟩ (.int .i64 U)).setCell ⟨w.heap.size, 0, none⟩ (.int .i64 M)).setCell ⟨w.heap.size, 1, none⟩ (.int .i64 now) := ⟨_, rfl⟩
  rw [← hw2]
  have hp2 : w2.heap[w.heap.size]? = some (.cells (mC M now U) 24 (0, 0)) := by
    have e1 := heap_setCell_same w1 w.heap.size 0 _ 24 (.int .i64 L) HP1.out
    have e2 := heap_setCell_same _ w.heap.size 1 _ 24 (.int .i64 S) e1
    have e3 := heap_setCell_same _ w.heap.size 2 _ 24 (.int .i64 U) e2
    have e4 := heap_setCell_same _ w.heap.size 0 _ 24 (.int .i64 M) e3
    have e5 := heap_setCell_same _ w.heap.size 1 _ 24 (.int .i64 now) e4
    rw [hw2, e5]
    rfl
  have hq2 : w2.heap[w.heap.size + 1]? = some (.cells (mC 0 0 0) 24 (0, 0)) := by
    rw [hw2]
    have hne : w.heap.size + 1 ≠ w.heap.size := by omega
    rw [Below.heap_setCell _ _ _ _ hne, Below.heap_setCell _ _ _ _ hne, Below.heap_setCell _ _ _ _ hne, Below.heap_setCell _ _ _ _ hne, Below.heap_setCell _ _ _ _ hne]
    exact HQ1.out
  have HB2 : Hid (Below w.heap.size w w2) := by
    rw [hw2]
    exact ((((HB1.out.setCell (Nat.le_refl _) _).setCell (Nat.le_refl _) _).setCell (Nat.le_refl _) _).setCell (Nat.le_refl _) _).setCell (Nat.le_refl _) _
  clear hw2 c0 c1 c2 f0
  have HP2 := Lib.hid hp2
  have HQ2 := Lib.hid hq2
  have HJ : Hid (M - 1 = (j : Int)) := hj
  have HJI : Hid ((0 : Int) ≤ (j : Int) ∧ (j : Int) < 6) := ⟨by omega, by omega⟩
  have HJN : Hid (((j : Int)).toNat = j) := Int.toNat_natCast j
  have HJL : Hid (IntKind.i64.wrap (j : Int) = (j : Int)) := IntWalk.i64_in _ (by omega)
  have HCL : Hid (∀ W : World, W.heap[w.heap.size]? = some (.cells (mC M now U) 24 (0, 0)) → W.cell? ⟨w.heap.size, 0, none⟩ = some (.int .i64 M) ∧ W.cell? ⟨w.heap.size, 2, none⟩ = some (.int .i64 U)) := fun W h => ⟨by rw [cell_of_row W _ 0 _ _ _ h]; rfl, by rw [cell_of_row W _ 2 _ _ _ h]; rfl⟩
  clear hp2 hq2 hj
  have HD : Hid (w2.drew.heap[w.heap.size]? = some (.cells (mC M now U) 24 (0, 0))) := HP2.out
  have HDB : Hid (Below w.heap.size w w2.drew) := HB2.out.drew
  have HDQ : Hid (w2.drew.heap[w.heap.size + 1]? = some (.cells (mC 0 0 0) 24 (0, 0))) := HQ2.out
  refine wp_region_held_drew (S := fun W : World => W.cell? ⟨w.heap.size, 0, none⟩ = some (.int .i64 M) ∧ W.cell? ⟨0, j, none⟩ = some (.int .i64 la)) (by kernel_rfl) ⟨(HCL.out _ HD.out).1, HLC.out _ HDB.out⟩ (fun hHeld => ?_)
  obtain ⟨W0, hW0⟩ : ∃ W0, W0 = w2.drew := ⟨_, rfl⟩
  rw [← hW0] at hHeld HD HDB HDQ ⊢
  clear hW0
  refine wpAnyH_take (i := 0) (oi := ?oi0) (v := ?v0) ?hi0 ?hs0 ?hf0 ?hr0 ?hQ0 ?hy0 ?hS0 ?h0
  case hi0 => exact (by simp only [List.getElem?_toArray, List.getElem?_cons_zero]; rfl)
  case hs0 => kernel_rfl
  case hf0 => kernel_rfl
  case hr0 => kernel_rfl
  case hQ0 => exact fun _ _ _ h => h
  case hy0 =>
    refine Or.inl ⟨rfl, ?_⟩
    intro W hSw
    obtain ⟨y0, y1⟩ := hSw
    have z0 := HJ.out
    have z1 := HJI.out
    have z2 := HJN.out
    have z3 := HJL.out
    go_simp
    try with_reducible rfl
  case hS0 => assumption
  try simp only [Act.put, List.setIfInBounds_toArray, List.set_cons_zero, List.set_cons_succ]
  refine wpAnyH_take (i := 2) (oi := ?oi2) (v := ?v2) ?hi2 ?hs2 ?hf2 ?hr2 ?hQ2 ?hy2 ?hS2 ?h2
  case hi2 => exact (by simp only [List.getElem?_toArray, List.getElem?_cons_succ, List.getElem?_cons_zero]; rfl)
  case hs2 => kernel_rfl
  case hf2 => kernel_rfl
  case hr2 => kernel_rfl
  case hQ2 => exact fun _ _ _ h => h
  case hy2 =>
    refine Or.inl ⟨rfl, ?_⟩
    intro W hSw
    obtain ⟨y0, y1⟩ := hSw
    have z0 := HJ.out
    have z1 := HJI.out
    have z2 := HJN.out
    have z3 := HJL.out
    go_simp
    try with_reducible rfl
  case hS2 => assumption
  try simp only [Act.put, List.setIfInBounds_toArray, List.set_cons_zero, List.set_cons_succ]
  refine wpAnyH_take (i := 3) (oi := ?oi3) (v := ?v3) ?hi3 ?hs3 ?hf3 ?hr3 ?hQ3 ?hy3 ?hS3 ?h3
  case hi3 => exact (by simp only [List.getElem?_toArray, List.getElem?_cons_succ, List.getElem?_cons_zero]; rfl)
  case hs3 => kernel_rfl
  case hf3 => kernel_rfl
  case hr3 => kernel_rfl
  case hQ3 => exact fun _ _ _ h => h
  case hy3 =>
    refine Or.inl ⟨rfl, ?_⟩
    intro W hSw
    obtain ⟨y0, y1⟩ := hSw
    have z0 := HJ.out
    have z1 := HJI.out
    have z2 := HJN.out
    have z3 := HJL.out
    go_simp
    try with_reducible rfl
  case hS3 => assumption
  try simp only [Act.put, List.setIfInBounds_toArray, List.set_cons_zero, List.set_cons_succ]
  refine wpAnyH_take (i := 4) (oi := ?oi4) (v := ?v4) ?hi4 ?hs4 ?hf4 ?hr4 ?hQ4 ?hy4 ?hS4 ?h4
  case hi4 => exact (by simp only [List.getElem?_toArray, List.getElem?_cons_succ, List.getElem?_cons_zero]; rfl)
  case hs4 => kernel_rfl
  case hf4 => kernel_rfl
  case hr4 => kernel_rfl
  case hQ4 => exact fun _ _ _ h => h
  case hy4 =>
    refine Or.inl ⟨rfl, ?_⟩
    intro W hSw
    obtain ⟨y0, y1⟩ := hSw
    have z0 := HJ.out
    have z1 := HJI.out
    have z2 := HJN.out
    have z3 := HJL.out
    go_simp
    try with_reducible rfl
  case hS4 => assumption
  try simp only [Act.put, List.setIfInBounds_toArray, List.set_cons_zero, List.set_cons_succ]
  refine wpAnyH_take (i := 5) (oi := ?oi5) (v := (.int .i64 (j : Int))) ?hi5 ?hs5 ?hf5 ?hr5 ?hQ5 ?hy5 ?hS5 ?h5
  case hi5 => exact (by simp only [List.getElem?_toArray, List.getElem?_cons_succ, List.getElem?_cons_zero]; rfl)
  case hs5 => kernel_rfl
  case hf5 => kernel_rfl
  case hr5 => kernel_rfl
  case hQ5 => exact fun _ _ _ h => h
  case hy5 =>
    refine Or.inl ⟨rfl, ?_⟩
    intro W hSw
    obtain ⟨y0, y1⟩ := hSw
    have z0 := HJ.out
    have z1 := HJI.out
    have z2 := HJN.out
    have z3 := HJL.out
    go_simp
    try with_reducible rfl
  case hS5 => assumption
  try simp only [Act.put, List.setIfInBounds_toArray, List.set_cons_zero, List.set_cons_succ]
  refine wpAnyH_take (i := 6) (oi := ?oi6) (v := ?v6) ?hi6 ?hs6 ?hf6 ?hr6 ?hQ6 ?hy6 ?hS6 ?h6
  case hi6 => exact (by simp only [List.getElem?_toArray, List.getElem?_cons_succ, List.getElem?_cons_zero]; rfl)
  case hs6 => kernel_rfl
  case hf6 => kernel_rfl
  case hr6 => kernel_rfl
  case hQ6 => exact fun _ _ _ h => h
  case hy6 =>
    refine Or.inl ⟨rfl, ?_⟩
    intro W hSw
    obtain ⟨y0, y1⟩ := hSw
    have z0 := HJ.out
    have z1 := HJI.out
    have z2 := HJN.out
    have z3 := HJL.out
    go_simp
    try with_reducible rfl
  case hS6 => assumption
  try simp only [Act.put, List.setIfInBounds_toArray, List.set_cons_zero, List.set_cons_succ]
  refine wpAnyH_take (i := 7) (oi := ?oi7) (v := ?v7) ?hi7 ?hs7 ?hf7 ?hr7 ?hQ7 ?hy7 ?hS7 ?h7
  case hi7 => exact (by simp only [List.getElem?_toArray, List.getElem?_cons_succ, List.getElem?_cons_zero]; rfl)
  case hs7 => kernel_rfl
  case hf7 => kernel_rfl
  case hr7 => kernel_rfl
  case hQ7 => exact fun _ _ _ h => h
  case hy7 =>
    refine Or.inl ⟨rfl, ?_⟩
    intro W hSw
    obtain ⟨y0, y1⟩ := hSw
    have z0 := HJ.out
    have z1 := HJI.out
    have z2 := HJN.out
    have z3 := HJL.out
    go_simp
    try with_reducible rfl
  case hS7 => assumption
  try simp only [Act.put, List.setIfInBounds_toArray, List.set_cons_zero, List.set_cons_succ]
  refine wpAnyH_ready (rs := [1, 8]) (by kernel_rfl) (by simp) ?_
  refine AllReadyH.cons (o := _) rfl (fun K hK => ?_) (AllReadyH.cons (o := _) rfl (fun K hK => ?_) AllReadyH.nil)
  · have hc2 := (HCL.out _ HD.out).2
    go_simp
    clear hc2
    refine hK.out _ _ ⟨(HCL.out _ HD.out).1, HLC.out _ HDB.out⟩ (fun hHeld => ?_)
    clear hK K
    try simp only [Act.put, List.setIfInBounds_toArray, List.set_cons_zero, List.set_cons_succ]
    refine wpAnyH_ready (rs := [8]) (by kernel_rfl) (by simp) ?_
    refine AllReadyH.cons (o := _) rfl (fun K hK => ?_) AllReadyH.nil
    go_simp
    refine (HAD.out W0).mono ?_
    rintro r W1 ⟨rfl, rfl⟩
    refine hK.out _ _ ⟨(HCL.out _ HD.out).1, HLC.out _ HDB.out⟩ (fun hHeld => ?_)
    clear hK K
    try simp only [Act.put, List.setIfInBounds_toArray, List.set_cons_zero, List.set_cons_succ]
    refine wpAnyH_take (i := 9) (oi := ?oi9a) (v := (.int .i64 R)) ?hi9a ?hs9a ?hf9a ?hr9a ?hQ9a ?hy9a ?hS9a ?h9a
    case hi9a => exact (by simp only [List.getElem?_toArray, List.getElem?_cons_succ, List.getElem?_cons_zero]; rfl)
    case hs9a => kernel_rfl
    case hf9a => kernel_rfl
    case hr9a => kernel_rfl
    case hQ9a => exact fun _ _ _ h => h
    case hy9a =>
      refine Or.inl ⟨rfl, ?_⟩
      intro W hSw
      obtain ⟨y0, y1⟩ := hSw
      have z0 := HJ.out
      have z1 := HJI.out
      have z2 := HJN.out
      have z3 := HJL.out
      have z4 := HMX.out
      go_simp
      try with_reducible rfl
    case hS9a => assumption
    try simp only [Act.put, List.setIfInBounds_toArray, List.set_cons_zero, List.set_cons_succ]
    refine wpAnyH_take (i := 10) (oi := ?oi10a) (v := ?v10a) ?hi10a ?hs10a ?hf10a ?hr10a ?hQ10a ?hy10a ?hS10a ?h10a
    case hi10a => exact (by simp only [List.getElem?_toArray, List.getElem?_cons_succ, List.getElem?_cons_zero]; rfl)
    case hs10a => kernel_rfl
    case hf10a => kernel_rfl
    case hr10a => kernel_rfl
    case hQ10a => exact fun _ _ _ h => h
    case hy10a =>
      refine Or.inl ⟨rfl, ?_⟩
      intro W hSw
      obtain ⟨y0, y1⟩ := hSw
      have z0 := HJ.out
      have z1 := HJI.out
      have z2 := HJN.out
      have z3 := HJL.out
      go_simp
      try with_reducible rfl
    case hS10a => assumption
    try simp only [Act.put, List.setIfInBounds_toArray, List.set_cons_zero, List.set_cons_succ]
    refine wpAnyH_ready (rs := [11]) (by kernel_rfl) (by simp) ?_
    refine AllReadyH.cons (o := _) rfl (fun K hK => ?_) AllReadyH.nil
    have hcu := (HCL.out _ HD.out).2
    have hfu := frozen_of_row _ w.heap.size 2 _ _ HD.out
    go_simp
    clear hcu hfu
    have HE : Hid ((W1.setCell ⟨w.heap.size, 2, none⟩ (.int .i64 R)).heap[w.heap.size]? = some (.cells (mC M now R) 24 (0, 0))) := heap_setCell_same _ w.heap.size 2 _ 24 (.int .i64 R) HD.out
    have HEB : Hid (Below w.heap.size w (W1.setCell ⟨w.heap.size, 2, none⟩ (.int .i64 R))) := HDB.out.setCell (Nat.le_refl _) _
    have HEQ : Hid ((W1.setCell ⟨w.heap.size, 2, none⟩ (.int .i64 R)).heap[w.heap.size + 1]? = some (.cells (mC 0 0 0) 24 (0, 0))) := (Below.heap_setCell _ _ _ _ (by show w.heap.size + 1 ≠ w.heap.size; omega)).trans HDQ.out
    refine hK.out _ _ ⟨by rw [cell_of_row _ _ 0 _ _ _ HE.out]; rfl, HLC.out _ HEB.out⟩ (fun hHeld => ?_)
    clear hK K
    try simp only [Act.put, List.setIfInBounds_toArray, List.set_cons_zero, List.set_cons_succ]
    refine wpAnyH_done (by kernel_rfl) ?_ _
    obtain ⟨w5, hw5⟩ : ∃ w5, w5 = W1.setCell ⟨w.heap.size, 2, none⟩ (.int .i64 R) := ⟨_, rfl⟩
    rw [← hw5] at HE HEB HEQ ⊢
    have c0 := cell_of_row w5 w.heap.size 0 _ _ _ HE.out
    have c1 := cell_of_row w5 w.heap.size 1 _ _ _ HE.out
    have c2 := cell_of_row w5 w.heap.size 2 _ _ _ HE.out
    have d0 := cell_of_row w5 (w.heap.size + 1) 0 _ _ _ HEQ.out
    have d1 := cell_of_row w5 (w.heap.size + 1) 1 _ _ _ HEQ.out
    have d2 := cell_of_row w5 (w.heap.size + 1) 2 _ _ _ HEQ.out
    have f1 : ∀ i, w5.frozen? ⟨w.heap.size + 1, i, none⟩ = false := fun i => frozen_of_row w5 _ i _ _ HEQ.out
    simp at c0 c1 c2 d0 d1 d2
    clear hw5 hHeld
    go_wp2_with fail
    refine bodyPost_ret (v := mV _ _ _) ?_ rfl ⟨rfl, ?_⟩
    · simp [results, Tryd.results12, go_sem, d0, d1, d2]
    · repeat (first | with_reducible exact HEB.out | with_reducible refine Below.setCell ?_ (by simp) _)
  · go_simp
    refine (HAD.out W0).mono ?_
    rintro r W1 ⟨rfl, rfl⟩
    refine hK.out _ _ ⟨(HCL.out _ HD.out).1, HLC.out _ HDB.out⟩ (fun hHeld => ?_)
    clear hK K
    try simp only [Act.put, List.setIfInBounds_toArray, List.set_cons_zero, List.set_cons_succ]
    refine wpAnyH_ready (rs := [1]) (by kernel_rfl) (by simp) ?_
    refine AllReadyH.cons (o := _) rfl (fun K hK => ?_) AllReadyH.nil
    have hc2 := (HCL.out _ HD.out).2
    go_simp
    clear hc2
    refine hK.out _ _ ⟨(HCL.out _ HD.out).1, HLC.out _ HDB.out⟩ (fun hHeld => ?_)
    clear hK K
    try simp only [Act.put, List.setIfInBounds_toArray, List.set_cons_zero, List.set_cons_succ]
    refine wpAnyH_take (i := 9) (oi := ?oi9b) (v := (.int .i64 R)) ?hi9b ?hs9b ?hf9b ?hr9b ?hQ9b ?hy9b ?hS9b ?h9b
    case hi9b => exact (by simp only [List.getElem?_toArray, List.getElem?_cons_succ, List.getElem?_cons_zero]; rfl)
    case hs9b => kernel_rfl
    case hf9b => kernel_rfl
    case hr9b => kernel_rfl
    case hQ9b => exact fun _ _ _ h => h
    case hy9b =>
      refine Or.inl ⟨rfl, ?_⟩
      intro W hSw
      obtain ⟨y0, y1⟩ := hSw
      have z0 := HJ.out
      have z1 := HJI.out
      have z2 := HJN.out
      have z3 := HJL.out
      have z4 := HMX.out
      go_simp
      try with_reducible rfl
    case hS9b => assumption
    try simp only [Act.put, List.setIfInBounds_toArray, List.set_cons_zero, List.set_cons_succ]
    refine wpAnyH_take (i := 10) (oi := ?oi10b) (v := ?v10b) ?hi10b ?hs10b ?hf10b ?hr10b ?hQ10b ?hy10b ?hS10b ?h10b
    case hi10b => exact (by simp only [List.getElem?_toArray, List.getElem?_cons_succ, List.getElem?_cons_zero]; rfl)
    case hs10b => kernel_rfl
    case hf10b => kernel_rfl
    case hr10b => kernel_rfl
    case hQ10b => exact fun _ _ _ h => h
    case hy10b =>
      refine Or.inl ⟨rfl, ?_⟩
      intro W hSw
      obtain ⟨y0, y1⟩ := hSw
      have z0 := HJ.out
      have z1 := HJI.out
      have z2 := HJN.out
      have z3 := HJL.out
      go_simp
      try with_reducible rfl
    case hS10b => assumption
    try simp only [Act.put, List.setIfInBounds_toArray, List.set_cons_zero, List.set_cons_succ]
    refine wpAnyH_ready (rs := [11]) (by kernel_rfl) (by simp) ?_
    refine AllReadyH.cons (o := _) rfl (fun K hK => ?_) AllReadyH.nil
    have hcu := (HCL.out _ HD.out).2
    have hfu := frozen_of_row _ w.heap.size 2 _ _ HD.out
    go_simp
    clear hcu hfu
    have HE : Hid ((W1.setCell ⟨w.heap.size, 2, none⟩ (.int .i64 R)).heap[w.heap.size]? = some (.cells (mC M now R) 24 (0, 0))) := heap_setCell_same _ w.heap.size 2 _ 24 (.int .i64 R) HD.out
    have HEB : Hid (Below w.heap.size w (W1.setCell ⟨w.heap.size, 2, none⟩ (.int .i64 R))) := HDB.out.setCell (Nat.le_refl _) _
    have HEQ : Hid ((W1.setCell ⟨w.heap.size, 2, none⟩ (.int .i64 R)).heap[w.heap.size + 1]? = some (.cells (mC 0 0 0) 24 (0, 0))) := (Below.heap_setCell _ _ _ _ (by show w.heap.size + 1 ≠ w.heap.size; omega)).trans HDQ.out
    refine hK.out _ _ ⟨by rw [cell_of_row _ _ 0 _ _ _ HE.out]; rfl, HLC.out _ HEB.out⟩ (fun hHeld => ?_)
    clear hK K
    try simp only [Act.put, List.setIfInBounds_toArray, List.set_cons_zero, List.set_cons_succ]
    refine wpAnyH_done (by kernel_rfl) ?_ _
    obtain ⟨w5, hw5⟩ : ∃ w5, w5 = W1.setCell ⟨w.heap.size, 2, none⟩ (.int .i64 R) := ⟨_, rfl⟩
    rw [← hw5] at HE HEB HEQ ⊢
    have c0 := cell_of_row w5 w.heap.size 0 _ _ _ HE.out
    have c1 := cell_of_row w5 w.heap.size 1 _ _ _ HE.out
    have c2 := cell_of_row w5 w.heap.size 2 _ _ _ HE.out
    have d0 := cell_of_row w5 (w.heap.size + 1) 0 _ _ _ HEQ.out
    have d1 := cell_of_row w5 (w.heap.size + 1) 1 _ _ _ HEQ.out
    have d2 := cell_of_row w5 (w.heap.size + 1) 2 _ _ _ HEQ.out
    have f1 : ∀ i, w5.frozen? ⟨w.heap.size + 1, i, none⟩ = false := fun i => frozen_of_row w5 _ i _ _ HEQ.out
    simp at c0 c1 c2 d0 d1 d2
    clear hw5 hHeld
    go_wp2_with fail
    refine bodyPost_ret (v := mV _ _ _) ?_ rfl ⟨rfl, ?_⟩
    · simp [results, Tryd.results12, go_sem, d0, d1, d2]
    · repeat (first | with_reducible exact HEB.out | with_reducible refine Below.setCell ?_ (by simp) _)
theorem hit_any (l s u now : Int) (w : World) (hlw : Lw w) (hz : 0 < w.heap.size) (hl : inI l) (hs : inI s) (hu : inI u) (hn : inI now) :
    Calls Tryd.prog 12 #[mV l s u, .int .i64 now] w fun r w' => r = .returned (mV (hitL l s now) now (hitU l s u now)) ∧ Below w.heap.size w w' := by
  have hL := atL_bd l s now (dwn_nonneg s now hs hn)
  refine hit_core l s u now (atL l s now) (atS l s now) (atU l s u now) (hitL l s now) (ban (hitL l s now) now) (hitU l s u now) w hlw hz (fun W => at_any l s u now W hl hs hu hn) hL (atU_in l s u now hu) hn ?_ rfl ?_
  · unfold hitL upL
    split <;> omega
  · unfold hitU
    omega
end Go.Proofs.YtfcogjdnnnpmdaaDoor
