/- Queue: tickets are sorted. -/
import Derived.Test.YtemjmnpclknfaaaGreatUE
import Derived.Shelf.SlSortCmp.WholeK
import Derived.Shelf.Lay
import Derived.Ground.SlsfProg
namespace Go.Proofs
open Go.Shelf
shelf_lay_g SlLaysF0.n6 Slsf 6 at Tryz 43 as YtemjmnpclknfaaaGreat.T.sortTk
namespace YtemjmnpclknfaaaGreat.T
open Go.RowKit Go.Lib Go.Sort
open Go.Proofs.YtemjmnpclknfaaaGreat.P (Sl un)
set_option maxRecDepth 20000
set_option linter.unusedVariables false
set_option linter.unusedSimpArgs false

theorem qlen64 (n : Nat) (hn : n ≤ 1) (w : World) : Calls Tryz.prog 87 #[.int .u64 (n : Int)] w fun e w' => (∃ k : Int, e = .returned (.int .i64 k)) ∧ w' = w := by
  have : n = 0 ∨ n = 1 := by omega
  rcases this with rfl | rfl <;>
  · go_enter Tryz.func87, Tryz.ntmps87
    go_wp2
    go_ret
    exact ⟨⟨_, rfl⟩, rfl⟩
theorem qlen65 (n : Nat) (hn : n ≤ 1) (w : World) : Calls Tryz.prog 66 #[.int .u64 (n : Int)] w fun e w' => (∃ k : Int, e = .returned (.int .i64 k)) ∧ w' = w := by
  have HC := Lib.hid (qlen64 n hn w)
  go_enter Tryz.func66, Tryz.ntmps66
  go_wp2_with (go_at_call 87; refine HC.out.mono ?_; rintro e w' ⟨⟨k, rfl⟩, rfl⟩)
  go_ret
  exact ⟨⟨_, rfl⟩, rfl⟩
theorem qins_any (p : Option Addr) (n c : Nat) (hn : n ≤ 1) (f : Value) (w : World) : Calls Tryz.prog 78 #[.slice p n c, .int .i64 0, .int .i64 (n : Int), f] w fun e w' => e = .returned (.tuple #[]) ∧ w' = w := by
  have : n = 0 ∨ n = 1 := by omega
  rcases this with rfl | rfl <;>
  · go_enter Tryz.func78, Tryz.ntmps78
    go_wp2
    refine wp_loop_rounds 1 ?_
    rw [rounds_succ]
    go_wp2
    go_end0
    exact ⟨rfl, rfl⟩
theorem qpdq_any (p : Option Addr) (n c : Nat) (hn : n ≤ 1) (lim : Int) (f : Value) (w : World) : Calls Tryz.prog 65 #[.slice p n c, .int .i64 0, .int .i64 (n : Int), .int .i64 lim, f] w fun e w' => e = .returned (.tuple #[]) ∧ w' = w := by
  have HC := Lib.hid (qins_any p n c hn f w)
  have t : decide ((n : Int) ≤ 12) = true := by rw [decide_eq_true_iff]; omega
  go_enter Tryz.func65, Tryz.ntmps65
  go_wp2
  refine wp_loop_rounds 1 ?_
  rw [rounds_succ]
  go_wp2_with (go_at_call 78; refine HC.out.mono ?_; rintro e w' ⟨rfl, rfl⟩)
  (try simp only [Exit.inBlock, Exit.then])
  refine bodyPost_ret (results_none rfl _ _ _) rfl ?_
  exact ⟨rfl, rfl⟩
theorem qsort_few (p : Option Addr) (n c : Nat) (hn : n ≤ 1) (f : Value) (w : World) : Calls Tryz.prog 43 #[.slice p n c, f] w fun e w' => e = .returned (.tuple #[]) ∧ w' = w := by
  have HP := Lib.hid fun lim => qpdq_any p n c hn lim f w
  have HL := Lib.hid (qlen65 n hn w)
  go_enter Tryz.func43, Tryz.ntmps43
  go_wp2_with (first | (go_at_call 66; refine HL.out.mono ?_; rintro e w' ⟨⟨k, rfl⟩, rfl⟩) | (go_at_call 65; refine (HP.out _).mono ?_; rintro e w' ⟨rfl, rfl⟩))
  go_end0
  exact ⟨rfl, rfl⟩

def cmp3 (x y : Int) : Int := if x < y then -1 else if y < x then 1 else 0

theorem nanS (a : Int) (W : World) : Calls Tryz.prog 67 #[.int .i64 a] W fun e w' => e = .returned (.bool false) ∧ w' = W := by
  go_enter Tryz.func67, Tryz.ntmps67
  go_wp2
  go_ret
  first | exact ⟨rfl, rfl⟩ | exact ⟨by simp, rfl⟩
theorem compareS (a b : Int) (W : World) : Calls Tryz.prog 46 #[.int .i64 a, .int .i64 b] W fun e w' => e = .returned (.int .i64 (cmp3 a b)) ∧ w' = W := by
  have HA := Lib.hid (nanS a)
  have HB := Lib.hid (nanS b)
  by_cases h1 : a < b
  · have t1 : decide (a < b) = true := by rw [decide_eq_true_iff]; exact h1
    have HE := Lib.hid (show cmp3 a b = -1 by simp [cmp3, h1])
    clear h1
    go_enter Tryz.func46, Tryz.ntmps46
    go_wp2_with fail
    refine (HA.out _).mono ?_
    rintro e w' ⟨rfl, rfl⟩
    go_wp2_with fail
    refine (HB.out _).mono ?_
    rintro e w' ⟨rfl, rfl⟩
    go_wp2
    go_ret
    exact ⟨by rw [HE.out]; rfl, rfl⟩
  · have t1 : decide (a < b) = false := by rw [decide_eq_false_iff_not]; exact h1
    by_cases h2 : b < a
    · have t2 : decide (a > b) = true := by rw [decide_eq_true_iff]; exact h2
      have HE := Lib.hid (show cmp3 a b = 1 by simp [cmp3, h1, h2])
      clear h1 h2
      go_enter Tryz.func46, Tryz.ntmps46
      go_wp2_with fail
      refine (HA.out _).mono ?_
      rintro e w' ⟨rfl, rfl⟩
      go_wp2_with fail
      refine (HB.out _).mono ?_
      rintro e w' ⟨rfl, rfl⟩
      go_wp2
      go_ret
      exact ⟨by rw [HE.out]; rfl, rfl⟩
    · have t2 : decide (a > b) = false := by rw [decide_eq_false_iff_not]; exact h2
      have HE := Lib.hid (show cmp3 a b = 0 by simp [cmp3, h1, h2])
      clear h1 h2
      go_enter Tryz.func46, Tryz.ntmps46
      go_wp2_with fail
      refine (HA.out _).mono ?_
      rintro e w' ⟨rfl, rfl⟩
      go_wp2_with fail
      refine (HB.out _).mono ?_
      rintro e w' ⟨rfl, rfl⟩
      go_wp2
      go_ret
      exact ⟨by rw [HE.out]; rfl, rfl⟩

theorem nanU (a : Int) (W : World) : Calls Tryz.prog 68 #[.int .u32 a] W fun e w' => e = .returned (.bool false) ∧ w' = W := by
  go_enter Tryz.func68, Tryz.ntmps68
  go_wp2
  go_ret
  first | exact ⟨rfl, rfl⟩ | exact ⟨by simp, rfl⟩
theorem compareU (a b : Int) (W : World) : Calls Tryz.prog 47 #[.int .u32 a, .int .u32 b] W fun e w' => e = .returned (.int .i64 (cmp3 a b)) ∧ w' = W := by
  have HA := Lib.hid (nanU a)
  have HB := Lib.hid (nanU b)
  by_cases h1 : a < b
  · have t1 : decide (a < b) = true := by rw [decide_eq_true_iff]; exact h1
    have HE := Lib.hid (show cmp3 a b = -1 by simp [cmp3, h1])
    clear h1
    go_enter Tryz.func47, Tryz.ntmps47
    go_wp2_with fail
    refine (HA.out _).mono ?_
    rintro e w' ⟨rfl, rfl⟩
    go_wp2_with fail
    refine (HB.out _).mono ?_
    rintro e w' ⟨rfl, rfl⟩
    go_wp2
    go_ret
    exact ⟨by rw [HE.out]; rfl, rfl⟩
  · have t1 : decide (a < b) = false := by rw [decide_eq_false_iff_not]; exact h1
    by_cases h2 : b < a
    · have t2 : decide (a > b) = true := by rw [decide_eq_true_iff]; exact h2
      have HE := Lib.hid (show cmp3 a b = 1 by simp [cmp3, h1, h2])
      clear h1 h2
      go_enter Tryz.func47, Tryz.ntmps47
      go_wp2_with fail
      refine (HA.out _).mono ?_
      rintro e w' ⟨rfl, rfl⟩
      go_wp2_with fail
      refine (HB.out _).mono ?_
      rintro e w' ⟨rfl, rfl⟩
      go_wp2
      go_ret
      exact ⟨by rw [HE.out]; rfl, rfl⟩
    · have t2 : decide (a > b) = false := by rw [decide_eq_false_iff_not]; exact h2
      have HE := Lib.hid (show cmp3 a b = 0 by simp [cmp3, h1, h2])
      clear h1 h2
      go_enter Tryz.func47, Tryz.ntmps47
      go_wp2_with fail
      refine (HA.out _).mono ?_
      rintro e w' ⟨rfl, rfl⟩
      go_wp2_with fail
      refine (HB.out _).mono ?_
      rintro e w' ⟨rfl, rfl⟩
      go_wp2
      go_ret
      exact ⟨by rw [HE.out]; rfl, rfl⟩

set_option maxHeartbeats 2000000 in
theorem or_any (a b : Int) (K : Nat) (w : World) (hK : K < w.heap.size) (h0 : w.cell? ⟨K, 0, none⟩ = some (.int .i64 a)) (h1 : w.cell? ⟨K, 1, none⟩ = some (.int .i64 b)) :
    Calls Tryz.prog 45 #[.slice (some ⟨K, 0, none⟩) 2 2] w fun r w' => r = .returned (.int .i64 (if a = 0 then b else a)) ∧ w' = w ∧ Below w.heap.size w w' := by
  obtain ⟨t, ht⟩ : ∃ t, t = if a = 0 then b else a := ⟨_, rfl⟩
  have HT := Lib.hid ht
  have H0 := Lib.hid h0
  have H1 := Lib.hid h1
  rw [← ht]
  clear ht h0 h1
  go_enter Tryz.func45, Tryz.ntmps45
  go_wp2_with fail
  go_loopw [8] (fun u wr => ∃ k : Nat, k ≤ 2 ∧ u = .int .i64 (k : Int) ∧ Hid ((1 ≤ k → a = 0) ∧ (2 ≤ k → b = 0)) ∧ wr = w) (fun u _ => 2 - (intOf u).toNat)
  case atStart => exact ⟨0, by omega, rfl, ⟨fun h => by omega, fun h => by omega⟩, by first | rfl | trivial⟩
  case round =>
    obtain ⟨k, hk, rfl, HV, rfl⟩ := hrel
    have hc : k = 0 ∨ k = 1 ∨ k = 2 := by omega
    rcases hc with rfl | rfl | rfl
    · have c0 := H0.out
      by_cases ha : a = 0
      · have HV1 : Hid ((1 ≤ 1 → a = 0) ∧ (2 ≤ 1 → b = 0)) := ⟨fun _ => ha, fun h => by omega⟩
        have he : (a == 0) = true := beq_iff_eq.2 ha
        clear ha
        go_wp2
        go_roundw
        case rel => exact ⟨1, by omega, by go_num, HV1.out, by first | rfl | trivial⟩
        case measure => simp [intOf] <;> omega
      · have e : t = a := by rw [HT.out, if_neg ha]
        have he : (a == 0) = false := beq_eq_false_iff_ne.2 ha
        clear ha
        go_wp2
        go_ret
        exact ⟨by rw [e]; first | rfl | simp, by first | rfl | trivial, Below.refl _ _⟩
    · have c1 := H1.out
      have ha := HV.out.1 (by omega)
      have e : t = b := by rw [HT.out, if_pos ha]
      by_cases hb : b = 0
      · have HV1 : Hid ((1 ≤ 2 → a = 0) ∧ (2 ≤ 2 → b = 0)) := ⟨fun _ => ha, fun _ => hb⟩
        have he : (b == 0) = true := beq_iff_eq.2 hb
        have HE := Lib.hid e
        clear ha hb e
        go_wp2
        go_roundw
        case rel => exact ⟨2, by omega, by go_num, HV1.out, by first | rfl | trivial⟩
        case measure => simp [intOf] <;> omega
      · have he : (b == 0) = false := beq_eq_false_iff_ne.2 hb
        have HE := Lib.hid e
        clear ha hb e
        go_wp2
        go_ret
        exact ⟨by rw [HE.out]; first | rfl | simp, by first | rfl | trivial, Below.refl _ _⟩
    · have e : t = 0 := by rw [HT.out, if_pos (HV.out.1 (by omega))]; exact HV.out.2 (by omega)
      have HE := Lib.hid e
      clear e
      go_wp2
      go_ret
      exact ⟨by rw [HE.out]; first | rfl | simp, by first | rfl | trivial, Below.refl _ _⟩
theorem grow3 (W : World) (a b c : Obj) : (((W.alloc a).alloc b).drew).alloc c = grow (W.drewN 1) #[a, b, c] := by
  have e1 : (W.alloc a).alloc b = grow W (#[a] ++ #[b]) := by rw [alloc_eq_grow, alloc_eq_grow, grow_grow]
  have e2 : (grow W (#[a] ++ #[b])).drew = grow (W.drewN 1) (#[a] ++ #[b]) := rfl
  rw [e1, e2, alloc_eq_grow, grow_grow]
  rfl
abbrev enT (x : Sl × Tk) : List Value := [.int .u32 (x.2.id : Int), .int .i64 x.2.md, .slice x.1.a x.1.n x.1.c, .int .i64 x.2.rt, .int .i64 x.2.sn]
def cmpT (x y : Sl × Tk) : Int := if cmp3 x.2.sn y.2.sn = 0 then cmp3 (x.2.id : Int) (y.2.id : Int) else cmp3 x.2.sn y.2.sn
set_option maxHeartbeats 4000000 in
theorem closure67 (x y : Sl × Tk) (W : World) : Calls Tryz.prog 44 #[.agg (mC x.2.id x.2.md x.1 x.2.rt x.2.sn), .agg (mC y.2.id y.2.md y.1 y.2.rt y.2.sn)] W fun e w' => e = .returned (.int .i64 (cmpT x y)) ∧ ∃ q os', w' = grow (W.drewN q) os' := by
  obtain ⟨a, ha⟩ : ∃ a, a = cmp3 x.2.sn y.2.sn := ⟨_, rfl⟩
  obtain ⟨b, hb⟩ : ∃ b, b = cmp3 (x.2.id : Int) (y.2.id : Int) := ⟨_, rfl⟩
  obtain ⟨t, ht⟩ : ∃ t, t = cmpT x y := ⟨_, rfl⟩
  have HCT : Hid (t = if a = 0 then b else a) := by simp only [Hid]; rw [ht]; unfold cmpT; rw [← ha, ← hb]
  obtain ⟨G, hG⟩ : ∃ X, X = W.heap.size := ⟨_, rfl⟩
  obtain ⟨H, hH⟩ : ∃ Y, Y = W.heap.size + 1 := ⟨_, rfl⟩
  obtain ⟨w0, hw0⟩ : ∃ w0, w0 = (W.alloc (.cells (mC x.2.id x.2.md x.1 x.2.rt x.2.sn) 39)).alloc (.cells (mC y.2.id y.2.md y.1 y.2.rt y.2.sn) 39) := ⟨_, rfl⟩
  have hp0 : w0.heap[G]? = some (.cells (mC x.2.id x.2.md x.1 x.2.rt x.2.sn) 39 (0, 0)) := by
    rw [hw0, hG]
    exact (RowKit.Below.heap_alloc _ _ _ (by simp)).trans (heap_alloc_new W _)
  have hq0 : w0.heap[H]? = some (.cells (mC y.2.id y.2.md y.1 y.2.rt y.2.sn) 39 (0, 0)) := by
    have h := heap_alloc_new (W.alloc (.cells (mC x.2.id x.2.md x.1 x.2.rt x.2.sn) 39)) (.cells (mC y.2.id y.2.md y.1 y.2.rt y.2.sn) 39)
    rw [World.size_alloc] at h
    rw [hw0, hH]
    exact h
  have HCA : Hid (∀ V, Calls Tryz.prog 46 #[.int .i64 x.2.sn, .int .i64 y.2.sn] V fun e w' => e = .returned (.int .i64 a) ∧ w' = V ∧ Below V.heap.size V w') := fun V => (compareS x.2.sn y.2.sn V).mono fun e w' ⟨h1, h2⟩ => ⟨by rw [h1, ha], h2, by rw [h2]; exact Below.refl _ _⟩
  have HCB : Hid (∀ V, Calls Tryz.prog 47 #[.int .u32 (x.2.id : Int), .int .u32 (y.2.id : Int)] V fun e w' => e = .returned (.int .i64 b) ∧ w' = V ∧ Below V.heap.size V w') := fun V => (compareU x.2.id y.2.id V).mono fun e w' ⟨h1, h2⟩ => ⟨by rw [h1, hb], h2, by rw [h2]; exact Below.refl _ _⟩
  have HSS : Hid (∀ V, Below w0.heap.size w0 V → (fun W : World => W.cell? ⟨G, 0, none⟩ = some (.int .u32 (x.2.id : Int)) ∧ W.cell? ⟨G, 4, none⟩ = some (.int .i64 x.2.sn) ∧ W.cell? ⟨H, 0, none⟩ = some (.int .u32 (y.2.id : Int)) ∧ W.cell? ⟨H, 4, none⟩ = some (.int .i64 y.2.sn)) V) := fun V hV => by
    have h1 := (hV.block G (lt_of_block hp0)).trans hp0
    have h2 := (hV.block H (lt_of_block hq0)).trans hq0
    have x0 := cell_of_row _ G 0 _ _ _ h1
    have x4 := cell_of_row _ G 4 _ _ _ h1
    have y0 := cell_of_row _ H 0 _ _ _ h2
    have y4 := cell_of_row _ H 4 _ _ _ h2
    exact ⟨by simpa using x0, by simpa using x4, by simpa using y0, by simpa using y4⟩
  have HBR : Hid (Below w0.heap.size w0 w0) := Below.refl _ _
  have H0 := Lib.hid hw0
  have HG := Lib.hid hG
  have HH := Lib.hid hH
  rw [← ht]
  clear ht ha hb hG hH hw0 hp0 hq0
  go_enter Tryz.func44, Tryz.ntmps44
  go_upto_region 1 with (fail)
  rw [← H0.out, ← HH.out, ← HG.out]
  have HDk : Hid (Below w0.heap.size w0 w0.drew) := HBR.out.drew
  refine wp_region_held_drew (S := fun W : World => W.cell? ⟨G, 0, none⟩ = some (.int .u32 (x.2.id : Int)) ∧ W.cell? ⟨G, 4, none⟩ = some (.int .i64 x.2.sn) ∧ W.cell? ⟨H, 0, none⟩ = some (.int .u32 (y.2.id : Int)) ∧ W.cell? ⟨H, 4, none⟩ = some (.int .i64 y.2.sn)) (by kernel_rfl) (HSS.out _ (HDk.out)) (fun hHeld => ?_)
  obtain ⟨Wk0, hW0⟩ : ∃ W0, W0 = w0.drew := ⟨_, rfl⟩
  have HW00 := Lib.hid hW0
  rw [← hW0] at hHeld HDk ⊢
  clear hW0
  refine wpAnyH_take (i := 0) (oi := ?oi0k) (v := ?v0k) ?hi0k ?hs0k ?hf0k ?hr0k ?hQ0k ?hy0k ?hS0k ?h0k
  case hi0k => exact (by simp only [List.getElem?_toArray, List.getElem?_cons_zero]; rfl)
  case hs0k => kernel_rfl
  case hf0k => kernel_rfl
  case hr0k => kernel_rfl
  case hQ0k => exact fun _ _ _ h => h
  case hy0k =>
    refine Or.inl ⟨rfl, ?_⟩
    intro W hSw
    obtain ⟨q0, q1, q2, q3⟩ := hSw
    go_simp
    try with_reducible rfl
  case hS0k => assumption
  try simp only [Act.put, List.setIfInBounds_toArray, List.set_cons_zero, List.set_cons_succ]
  refine wpAnyH_take (i := 1) (oi := ?oi1k) (v := ?v1k) ?hi1k ?hs1k ?hf1k ?hr1k ?hQ1k ?hy1k ?hS1k ?h1k
  case hi1k => exact (by simp only [List.getElem?_toArray, List.getElem?_cons_succ, List.getElem?_cons_zero]; rfl)
  case hs1k => kernel_rfl
  case hf1k => kernel_rfl
  case hr1k => kernel_rfl
  case hQ1k => exact fun _ _ _ h => h
  case hy1k =>
    refine Or.inl ⟨rfl, ?_⟩
    intro W hSw
    obtain ⟨q0, q1, q2, q3⟩ := hSw
    go_simp
    try with_reducible rfl
  case hS1k => assumption
  try simp only [Act.put, List.setIfInBounds_toArray, List.set_cons_zero, List.set_cons_succ]
  refine wpAnyH_take (i := 2) (oi := ?oi2k) (v := ?v2k) ?hi2k ?hs2k ?hf2k ?hr2k ?hQ2k ?hy2k ?hS2k ?h2k
  case hi2k => exact (by simp only [List.getElem?_toArray, List.getElem?_cons_succ, List.getElem?_cons_zero]; rfl)
  case hs2k => kernel_rfl
  case hf2k => kernel_rfl
  case hr2k => kernel_rfl
  case hQ2k => exact fun _ _ _ h => h
  case hy2k =>
    refine Or.inl ⟨rfl, ?_⟩
    intro W hSw
    obtain ⟨q0, q1, q2, q3⟩ := hSw
    go_simp
    try with_reducible rfl
  case hS2k => assumption
  try simp only [Act.put, List.setIfInBounds_toArray, List.set_cons_zero, List.set_cons_succ]
  refine wpAnyH_take (i := 3) (oi := ?oi3k) (v := ?v3k) ?hi3k ?hs3k ?hf3k ?hr3k ?hQ3k ?hy3k ?hS3k ?h3k
  case hi3k => exact (by simp only [List.getElem?_toArray, List.getElem?_cons_succ, List.getElem?_cons_zero]; rfl)
  case hs3k => kernel_rfl
  case hf3k => kernel_rfl
  case hr3k => kernel_rfl
  case hQ3k => exact fun _ _ _ h => h
  case hy3k =>
    refine Or.inl ⟨rfl, ?_⟩
    intro W hSw
    obtain ⟨q0, q1, q2, q3⟩ := hSw
    go_simp
    try with_reducible rfl
  case hS3k => assumption
  try simp only [Act.put, List.setIfInBounds_toArray, List.set_cons_zero, List.set_cons_succ]
  refine wpAnyH_take (i := 5) (oi := ?oi5k) (v := ?v5k) ?hi5k ?hs5k ?hf5k ?hr5k ?hQ5k ?hy5k ?hS5k ?h5k
  case hi5k => exact (by simp only [List.getElem?_toArray, List.getElem?_cons_succ, List.getElem?_cons_zero]; rfl)
  case hs5k => kernel_rfl
  case hf5k => kernel_rfl
  case hr5k => kernel_rfl
  case hQ5k => exact fun _ _ _ h => h
  case hy5k =>
    refine Or.inl ⟨rfl, ?_⟩
    intro W hSw
    obtain ⟨q0, q1, q2, q3⟩ := hSw
    go_simp
    try with_reducible rfl
  case hS5k => assumption
  try simp only [Act.put, List.setIfInBounds_toArray, List.set_cons_zero, List.set_cons_succ]
  refine wpAnyH_take (i := 6) (oi := ?oi6k) (v := ?v6k) ?hi6k ?hs6k ?hf6k ?hr6k ?hQ6k ?hy6k ?hS6k ?h6k
  case hi6k => exact (by simp only [List.getElem?_toArray, List.getElem?_cons_succ, List.getElem?_cons_zero]; rfl)
  case hs6k => kernel_rfl
  case hf6k => kernel_rfl
  case hr6k => kernel_rfl
  case hQ6k => exact fun _ _ _ h => h
  case hy6k =>
    refine Or.inl ⟨rfl, ?_⟩
    intro W hSw
    obtain ⟨q0, q1, q2, q3⟩ := hSw
    go_simp
    try with_reducible rfl
  case hS6k => assumption
  try simp only [Act.put, List.setIfInBounds_toArray, List.set_cons_zero, List.set_cons_succ]
  refine wpAnyH_take (i := 7) (oi := ?oi7k) (v := ?v7k) ?hi7k ?hs7k ?hf7k ?hr7k ?hQ7k ?hy7k ?hS7k ?h7k
  case hi7k => exact (by simp only [List.getElem?_toArray, List.getElem?_cons_succ, List.getElem?_cons_zero]; rfl)
  case hs7k => kernel_rfl
  case hf7k => kernel_rfl
  case hr7k => kernel_rfl
  case hQ7k => exact fun _ _ _ h => h
  case hy7k =>
    refine Or.inl ⟨rfl, ?_⟩
    intro W hSw
    obtain ⟨q0, q1, q2, q3⟩ := hSw
    go_simp
    try with_reducible rfl
  case hS7k => assumption
  try simp only [Act.put, List.setIfInBounds_toArray, List.set_cons_zero, List.set_cons_succ]
  refine wpAnyH_take (i := 8) (oi := ?oi8k) (v := ?v8k) ?hi8k ?hs8k ?hf8k ?hr8k ?hQ8k ?hy8k ?hS8k ?h8k
  case hi8k => exact (by simp only [List.getElem?_toArray, List.getElem?_cons_succ, List.getElem?_cons_zero]; rfl)
  case hs8k => kernel_rfl
  case hf8k => kernel_rfl
  case hr8k => kernel_rfl
  case hQ8k => exact fun _ _ _ h => h
  case hy8k =>
    refine Or.inl ⟨rfl, ?_⟩
    intro W hSw
    obtain ⟨q0, q1, q2, q3⟩ := hSw
    go_simp
    try with_reducible rfl
  case hS8k => assumption
  try simp only [Act.put, List.setIfInBounds_toArray, List.set_cons_zero, List.set_cons_succ]
  refine wpAnyH_ready (rs := [4]) (by kernel_rfl) (by simp) ?_
  refine AllReadyH.cons (o := _) rfl (fun K hK => ?_) AllReadyH.nil
  go_simp
  refine (HCA.out Wk0).mono ?_
  rintro r Wk1 ⟨rfl, hw, hbq⟩
  have HBk1 := Lib.hid (HDk.out.trans (hbq.mono HDk.out.size))
  have HWA := Lib.hid hw
  clear hw
  clear hbq
  refine hK.out _ _ (HSS.out _ (HBk1.out)) (fun hHeld => ?_)
  clear hK K
  try simp only [Act.put, List.setIfInBounds_toArray, List.set_cons_zero, List.set_cons_succ]
  refine wpAnyH_ready (rs := [9]) (by kernel_rfl) (by simp) ?_
  refine AllReadyH.cons (o := _) rfl (fun K hK => ?_) AllReadyH.nil
  go_simp
  refine (HCB.out Wk1).mono ?_
  rintro r Wk2 ⟨rfl, hw, hbq⟩
  have HBk2 := Lib.hid (HBk1.out.trans (hbq.mono HBk1.out.size))
  have HWC := Lib.hid hw
  clear hw
  clear hbq
  refine hK.out _ _ (HSS.out _ (HBk2.out)) (fun hHeld => ?_)
  clear hK K
  try simp only [Act.put, List.setIfInBounds_toArray, List.set_cons_zero, List.set_cons_succ]
  refine wpAnyH_ready (rs := [10]) (by kernel_rfl) (by simp) ?_
  refine AllReadyH.cons (o := _) rfl (fun K hK => ?_) AllReadyH.nil
  go_simp
  obtain ⟨KB, hKB⟩ : ∃ k, k = Wk2.heap.size := ⟨_, rfl⟩
  obtain ⟨Wb, hWb⟩ : ∃ X, X = Wk2.alloc (.cells #[.int .i64 a, .int .i64 b] 3) := ⟨_, rfl⟩
  have hbb : Below Wk2.heap.size Wk2 Wb := by rw [hWb]; exact (Below.refl _ _).alloc (Nat.le_refl _) _
  have hqb : Wb.heap[KB]? = some (.cells #[.int .i64 a, .int .i64 b] 3 (0, 0)) := by rw [hWb, hKB]; exact heap_alloc_new _ _
  have HBb := Lib.hid (HBk2.out.trans (hbb.mono HBk2.out.size))
  have HOR := Lib.hid (or_any a b KB Wb (lt_of_block hqb) (by have := cell_of_row _ KB 0 _ _ _ hqb; simpa using this) (by have := cell_of_row _ KB 1 _ _ _ hqb; simpa using this))
  rw [← HCT.out] at HOR
  rw [← hWb, ← hKB]
  have HWB := Lib.hid hWb
  clear hWb hKB hbb hqb
  refine hK.out _ _ (HSS.out _ HBb.out) (fun hHeld => ?_)
  clear hK K
  try simp only [Act.put, List.setIfInBounds_toArray, List.set_cons_zero, List.set_cons_succ]
  refine wpAnyH_ready (rs := [11]) (by kernel_rfl) (by simp) ?_
  refine AllReadyH.cons (o := _) rfl (fun K hK => ?_) AllReadyH.nil
  go_simp
  refine (HOR.out).mono ?_
  rintro r Wm1 ⟨rfl, hw, hbq⟩
  have HBm1 := Lib.hid (HBb.out.trans (hbq.mono HBb.out.size))
  have HWD := Lib.hid hw
  clear hw
  clear hbq
  refine hK.out _ _ (HSS.out _ (HBm1.out)) (fun hHeld => ?_)
  clear hK K
  try simp only [Act.put, List.setIfInBounds_toArray, List.set_cons_zero, List.set_cons_succ]
  refine wpAnyH_take (i := 12) (oi := ?oi12m) (v := ?v12m) ?hi12m ?hs12m ?hf12m ?hr12m ?hQ12m ?hy12m ?hS12m ?h12m
  case hi12m => exact (by simp only [List.getElem?_toArray, List.getElem?_cons_succ, List.getElem?_cons_zero]; rfl)
  case hs12m => kernel_rfl
  case hf12m => kernel_rfl
  case hr12m => kernel_rfl
  case hQ12m => exact fun _ _ _ h => h
  case hy12m =>
    refine Or.inl ⟨rfl, ?_⟩
    intro W hSw
    obtain ⟨q0, q1, q2, q3⟩ := hSw
    go_simp
    try with_reducible rfl
  case hS12m => assumption
  try simp only [Act.put, List.setIfInBounds_toArray, List.set_cons_zero, List.set_cons_succ]
  refine wpAnyH_done (by kernel_rfl) ?_ _
  go_wp2_with fail
  go_ret
  refine ⟨by first | rfl | simp, 1, #[.cells (mC x.2.id x.2.md x.1 x.2.rt x.2.sn) 39 (0, 0), .cells (mC y.2.id y.2.md y.1 y.2.rt y.2.sn) 39 (0, 0), .cells #[.int .i64 a, .int .i64 b] 3 (0, 0)], ?_⟩
  rw [HWD.out, HWB.out, HWC.out, HWA.out, HW00.out, H0.out]
  exact grow3 _ _ _ _
end YtemjmnpclknfaaaGreat.T
end Go.Proofs
