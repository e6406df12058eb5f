/- Queue: tickets are sorted; Mode. -/
import Derived.Test.YtemjmnpclknfaaaM2
import Derived.Shelf.SlSortCmp.WholeK
import Derived.Shelf.Lay
import Derived.Ground.SlsfProg

/- Queue: tickets are sorted. -/
namespace Go.Proofs
open Go.Shelf
shelf_lay_g SlLaysF0.n6 Slsf 6 at Try 66 as Ytemjmnpclknfaaa.T.sortTk
namespace Ytemjmnpclknfaaa.T
open Go.RowKit Go.Lib Go.Sort
open Go.Proofs.Ytemjmnpclknfaaa.P (Sl un)
set_option maxRecDepth 20000
set_option linter.unusedVariables false
set_option linter.unusedSimpArgs false

theorem qlen64 (n : Nat) (hn : n ≤ 1) (w : World) : Calls Try.prog 119 #[.int .u64 (n : Int)] w fun e w' => (∃ k : Int, e = .returned (.int .i64 k)) ∧ w' = w := by
  have : n = 0 ∨ n = 1 := by omega
  rcases this with rfl | rfl <;>
  · go_enter Try.func119, Try.ntmps119
    go_wp2
    go_ret
    exact ⟨⟨_, rfl⟩, rfl⟩
theorem qlen65 (n : Nat) (hn : n ≤ 1) (w : World) : Calls Try.prog 100 #[.int .u64 (n : Int)] w fun e w' => (∃ k : Int, e = .returned (.int .i64 k)) ∧ w' = w := by
  have HC := Lib.hid (qlen64 n hn w)
  go_enter Try.func100, Try.ntmps100
  go_wp2_with (go_at_call 119; refine HC.out.mono ?_; rintro e w' ⟨⟨k, rfl⟩, rfl⟩)
  go_ret
  exact ⟨⟨_, rfl⟩, rfl⟩
theorem qins_any (p : Option Addr) (n c : Nat) (hn : n ≤ 1) (f : Value) (w : World) : Calls Try.prog 110 #[.slice p n c, .int .i64 0, .int .i64 (n : Int), f] w fun e w' => e = .returned (.tuple #[]) ∧ w' = w := by
  have : n = 0 ∨ n = 1 := by omega
  rcases this with rfl | rfl <;>
  · go_enter Try.func110, Try.ntmps110
    go_wp2
    refine wp_loop_rounds 1 ?_
    rw [rounds_succ]
    go_wp2
    go_end0
    exact ⟨rfl, rfl⟩
theorem qpdq_any (p : Option Addr) (n c : Nat) (hn : n ≤ 1) (lim : Int) (f : Value) (w : World) : Calls Try.prog 99 #[.slice p n c, .int .i64 0, .int .i64 (n : Int), .int .i64 lim, f] w fun e w' => e = .returned (.tuple #[]) ∧ w' = w := by
  have HC := Lib.hid (qins_any p n c hn f w)
  have t : decide ((n : Int) ≤ 12) = true := by rw [decide_eq_true_iff]; omega
  go_enter Try.func99, Try.ntmps99
  go_wp2
  refine wp_loop_rounds 1 ?_
  rw [rounds_succ]
  go_wp2_with (go_at_call 110; refine HC.out.mono ?_; rintro e w' ⟨rfl, rfl⟩)
  (try simp only [Exit.inBlock, Exit.then])
  refine bodyPost_ret (results_none rfl _ _ _) rfl ?_
  exact ⟨rfl, rfl⟩
theorem qsort_few (p : Option Addr) (n c : Nat) (hn : n ≤ 1) (f : Value) (w : World) : Calls Try.prog 66 #[.slice p n c, f] w fun e w' => e = .returned (.tuple #[]) ∧ w' = w := by
  have HP := Lib.hid fun lim => qpdq_any p n c hn lim f w
  have HL := Lib.hid (qlen65 n hn w)
  go_enter Try.func66, Try.ntmps66
  go_wp2_with (first | (go_at_call 100; refine HL.out.mono ?_; rintro e w' ⟨⟨k, rfl⟩, rfl⟩) | (go_at_call 99; refine (HP.out _).mono ?_; rintro e w' ⟨rfl, rfl⟩))
  go_end0
  exact ⟨rfl, rfl⟩

def cmp3 (x y : Int) : Int := if x < y then -1 else if y < x then 1 else 0

theorem nanS (a : Int) (W : World) : Calls Try.prog 101 #[.int .i64 a] W fun e w' => e = .returned (.bool false) ∧ w' = W := by
  go_enter Try.func101, Try.ntmps101
  go_wp2
  go_ret
  first | exact ⟨rfl, rfl⟩ | exact ⟨by simp, rfl⟩
theorem compareS (a b : Int) (W : World) : Calls Try.prog 69 #[.int .i64 a, .int .i64 b] W fun e w' => e = .returned (.int .i64 (cmp3 a b)) ∧ w' = W := by
  have HA := Lib.hid (nanS a)
  have HB := Lib.hid (nanS b)
  by_cases h1 : a < b
  · have t1 : decide (a < b) = true := by rw [decide_eq_true_iff]; exact h1
    have HE := Lib.hid (show cmp3 a b = -1 by simp [cmp3, h1])
    clear h1
    go_enter Try.func69, Try.ntmps69
    go_wp2_with fail
    refine (HA.out _).mono ?_
    rintro e w' ⟨rfl, rfl⟩
    go_wp2_with fail
    refine (HB.out _).mono ?_
    rintro e w' ⟨rfl, rfl⟩
    go_wp2
    go_ret
    exact ⟨by rw [HE.out]; rfl, rfl⟩
  · have t1 : decide (a < b) = false := by rw [decide_eq_false_iff_not]; exact h1
    by_cases h2 : b < a
    · have t2 : decide (a > b) = true := by rw [decide_eq_true_iff]; exact h2
      have HE := Lib.hid (show cmp3 a b = 1 by simp [cmp3, h1, h2])
      clear h1 h2
      go_enter Try.func69, Try.ntmps69
      go_wp2_with fail
      refine (HA.out _).mono ?_
      rintro e w' ⟨rfl, rfl⟩
      go_wp2_with fail
      refine (HB.out _).mono ?_
      rintro e w' ⟨rfl, rfl⟩
      go_wp2
      go_ret
      exact ⟨by rw [HE.out]; rfl, rfl⟩
    · have t2 : decide (a > b) = false := by rw [decide_eq_false_iff_not]; exact h2
      have HE := Lib.hid (show cmp3 a b = 0 by simp [cmp3, h1, h2])
      clear h1 h2
      go_enter Try.func69, Try.ntmps69
      go_wp2_with fail
      refine (HA.out _).mono ?_
      rintro e w' ⟨rfl, rfl⟩
      go_wp2_with fail
      refine (HB.out _).mono ?_
      rintro e w' ⟨rfl, rfl⟩
      go_wp2
      go_ret
      exact ⟨by rw [HE.out]; rfl, rfl⟩

theorem nanU (a : Int) (W : World) : Calls Try.prog 102 #[.int .u32 a] W fun e w' => e = .returned (.bool false) ∧ w' = W := by
  go_enter Try.func102, Try.ntmps102
  go_wp2
  go_ret
  first | exact ⟨rfl, rfl⟩ | exact ⟨by simp, rfl⟩
theorem compareU (a b : Int) (W : World) : Calls Try.prog 70 #[.int .u32 a, .int .u32 b] W fun e w' => e = .returned (.int .i64 (cmp3 a b)) ∧ w' = W := by
  have HA := Lib.hid (nanU a)
  have HB := Lib.hid (nanU b)
  by_cases h1 : a < b
  · have t1 : decide (a < b) = true := by rw [decide_eq_true_iff]; exact h1
    have HE := Lib.hid (show cmp3 a b = -1 by simp [cmp3, h1])
    clear h1
    go_enter Try.func70, Try.ntmps70
    go_wp2_with fail
    refine (HA.out _).mono ?_
    rintro e w' ⟨rfl, rfl⟩
    go_wp2_with fail
    refine (HB.out _).mono ?_
    rintro e w' ⟨rfl, rfl⟩
    go_wp2
    go_ret
    exact ⟨by rw [HE.out]; rfl, rfl⟩
  · have t1 : decide (a < b) = false := by rw [decide_eq_false_iff_not]; exact h1
    by_cases h2 : b < a
    · have t2 : decide (a > b) = true := by rw [decide_eq_true_iff]; exact h2
      have HE := Lib.hid (show cmp3 a b = 1 by simp [cmp3, h1, h2])
      clear h1 h2
      go_enter Try.func70, Try.ntmps70
      go_wp2_with fail
      refine (HA.out _).mono ?_
      rintro e w' ⟨rfl, rfl⟩
      go_wp2_with fail
      refine (HB.out _).mono ?_
      rintro e w' ⟨rfl, rfl⟩
      go_wp2
      go_ret
      exact ⟨by rw [HE.out]; rfl, rfl⟩
    · have t2 : decide (a > b) = false := by rw [decide_eq_false_iff_not]; exact h2
      have HE := Lib.hid (show cmp3 a b = 0 by simp [cmp3, h1, h2])
      clear h1 h2
      go_enter Try.func70, Try.ntmps70
      go_wp2_with fail
      refine (HA.out _).mono ?_
      rintro e w' ⟨rfl, rfl⟩
      go_wp2_with fail
      refine (HB.out _).mono ?_
      rintro e w' ⟨rfl, rfl⟩
      go_wp2
      go_ret
      exact ⟨by rw [HE.out]; rfl, rfl⟩

set_option maxHeartbeats 2000000 in
theorem or_any (a b : Int) (K : Nat) (w : World) (hK : K < w.heap.size) (h0 : w.cell? ⟨K, 0, none⟩ = some (.int .i64 a)) (h1 : w.cell? ⟨K, 1, none⟩ = some (.int .i64 b)) :
    Calls Try.prog 68 #[.slice (some ⟨K, 0, none⟩) 2 2] w fun r w' => r = .returned (.int .i64 (if a = 0 then b else a)) ∧ w' = w ∧ Below w.heap.size w w' := by
  obtain ⟨t, ht⟩ : ∃ t, t = if a = 0 then b else a := ⟨_, rfl⟩
  have HT := Lib.hid ht
  have H0 := Lib.hid h0
  have H1 := Lib.hid h1
  rw [← ht]
  clear ht h0 h1
  go_enter Try.func68, Try.ntmps68
  go_wp2_with fail
  go_loopw [8] (fun u wr => ∃ k : Nat, k ≤ 2 ∧ u = .int .i64 (k : Int) ∧ Hid ((1 ≤ k → a = 0) ∧ (2 ≤ k → b = 0)) ∧ wr = w) (fun u _ => 2 - (intOf u).toNat)
  case atStart => exact ⟨0, by omega, rfl, ⟨fun h => by omega, fun h => by omega⟩, by first | rfl | trivial⟩
  case round =>
    obtain ⟨k, hk, rfl, HV, rfl⟩ := hrel
    have hc : k = 0 ∨ k = 1 ∨ k = 2 := by omega
    rcases hc with rfl | rfl | rfl
    · have c0 := H0.out
      by_cases ha : a = 0
      · have HV1 : Hid ((1 ≤ 1 → a = 0) ∧ (2 ≤ 1 → b = 0)) := ⟨fun _ => ha, fun h => by omega⟩
        have he : (a == 0) = true := beq_iff_eq.2 ha
        clear ha
        go_wp2
        go_roundw
        case rel => exact ⟨1, by omega, by go_num, HV1.out, by first | rfl | trivial⟩
        case measure => simp [intOf] <;> omega
      · have e : t = a := by rw [HT.out, if_neg ha]
        have he : (a == 0) = false := beq_eq_false_iff_ne.2 ha
        clear ha
        go_wp2
        go_ret
        exact ⟨by rw [e]; first | rfl | simp, by first | rfl | trivial, Below.refl _ _⟩
    · have c1 := H1.out
      have ha := HV.out.1 (by omega)
      have e : t = b := by rw [HT.out, if_pos ha]
      by_cases hb : b = 0
      · have HV1 : Hid ((1 ≤ 2 → a = 0) ∧ (2 ≤ 2 → b = 0)) := ⟨fun _ => ha, fun _ => hb⟩
        have he : (b == 0) = true := beq_iff_eq.2 hb
        have HE := Lib.hid e
        clear ha hb e
        go_wp2
        go_roundw
        case rel => exact ⟨2, by omega, by go_num, HV1.out, by first | rfl | trivial⟩
        case measure => simp [intOf] <;> omega
      · have he : (b == 0) = false := beq_eq_false_iff_ne.2 hb
        have HE := Lib.hid e
        clear ha hb e
        go_wp2
        go_ret
        exact ⟨by rw [HE.out]; first | rfl | simp, by first | rfl | trivial, Below.refl _ _⟩
    · have e : t = 0 := by rw [HT.out, if_pos (HV.out.1 (by omega))]; exact HV.out.2 (by omega)
      have HE := Lib.hid e
      clear e
      go_wp2
      go_ret
      exact ⟨by rw [HE.out]; first | rfl | simp, by first | rfl | trivial, Below.refl _ _⟩
theorem grow3 (W : World) (a b c : Obj) : (((W.alloc a).alloc b).drew).alloc c = grow (W.drewN 1) #[a, b, c] := by
  have e1 : (W.alloc a).alloc b = grow W (#[a] ++ #[b]) := by rw [alloc_eq_grow, alloc_eq_grow, grow_grow]
  have e2 : (grow W (#[a] ++ #[b])).drew = grow (W.drewN 1) (#[a] ++ #[b]) := rfl
  rw [e1, e2, alloc_eq_grow, grow_grow]
  rfl
abbrev enT (x : Sl × Tk) : List Value := [.int .u32 (x.2.id : Int), .int .i64 x.2.md, .slice x.1.a x.1.n x.1.c, .int .i64 x.2.rt, .int .i64 x.2.sn]
def cmpT (x y : Sl × Tk) : Int := if cmp3 x.2.sn y.2.sn = 0 then cmp3 (x.2.id : Int) (y.2.id : Int) else cmp3 x.2.sn y.2.sn
set_option maxHeartbeats 4000000 in
theorem closure67 (x y : Sl × Tk) (W : World) : Calls Try.prog 67 #[.agg (mC x.2.id x.2.md x.1 x.2.rt x.2.sn), .agg (mC y.2.id y.2.md y.1 y.2.rt y.2.sn)] W fun e w' => e = .returned (.int .i64 (cmpT x y)) ∧ ∃ q os', w' = grow (W.drewN q) os' := by
  obtain ⟨a, ha⟩ : ∃ a, a = cmp3 x.2.sn y.2.sn := ⟨_, rfl⟩
  obtain ⟨b, hb⟩ : ∃ b, b = cmp3 (x.2.id : Int) (y.2.id : Int) := ⟨_, rfl⟩
  obtain ⟨t, ht⟩ : ∃ t, t = cmpT x y := ⟨_, rfl⟩
  have HCT : Hid (t = if a = 0 then b else a) := by simp only [Hid]; rw [ht]; unfold cmpT; rw [← ha, ← hb]
  obtain ⟨G, hG⟩ : ∃ X, X = W.heap.size := ⟨_, rfl⟩
  obtain ⟨H, hH⟩ : ∃ Y, Y = W.heap.size + 1 := ⟨_, rfl⟩
  obtain ⟨w0, hw0⟩ : ∃ w0, w0 = (W.alloc (.cells (mC x.2.id x.2.md x.1 x.2.rt x.2.sn) 72)).alloc (.cells (mC y.2.id y.2.md y.1 y.2.rt y.2.sn) 72) := ⟨_, rfl⟩
  have hp0 : w0.heap[G]? = some (.cells (mC x.2.id x.2.md x.1 x.2.rt x.2.sn) 72 (0, 0)) := by
    rw [hw0, hG]
    exact (RowKit.Below.heap_alloc _ _ _ (by simp)).trans (heap_alloc_new W _)
  have hq0 : w0.heap[H]? = some (.cells (mC y.2.id y.2.md y.1 y.2.rt y.2.sn) 72 (0, 0)) := by
    have h := heap_alloc_new (W.alloc (.cells (mC x.2.id x.2.md x.1 x.2.rt x.2.sn) 72)) (.cells (mC y.2.id y.2.md y.1 y.2.rt y.2.sn) 72)
    rw [World.size_alloc] at h
    rw [hw0, hH]
    exact h
  have HCA : Hid (∀ V, Calls Try.prog 69 #[.int .i64 x.2.sn, .int .i64 y.2.sn] V fun e w' => e = .returned (.int .i64 a) ∧ w' = V ∧ Below V.heap.size V w') := fun V => (compareS x.2.sn y.2.sn V).mono fun e w' ⟨h1, h2⟩ => ⟨by rw [h1, ha], h2, by rw [h2]; exact Below.refl _ _⟩
  have HCB : Hid (∀ V, Calls Try.prog 70 #[.int .u32 (x.2.id : Int), .int .u32 (y.2.id : Int)] V fun e w' => e = .returned (.int .i64 b) ∧ w' = V ∧ Below V.heap.size V w') := fun V => (compareU x.2.id y.2.id V).mono fun e w' ⟨h1, h2⟩ => ⟨by rw [h1, hb], h2, by rw [h2]; exact Below.refl _ _⟩
  have HSS : Hid (∀ V, Below w0.heap.size w0 V → (fun W : World => W.cell? ⟨G, 0, none⟩ = some (.int .u32 (x.2.id : Int)) ∧ W.cell? ⟨G, 4, none⟩ = some (.int .i64 x.2.sn) ∧ W.cell? ⟨H, 0, none⟩ = some (.int .u32 (y.2.id : Int)) ∧ W.cell? ⟨H, 4, none⟩ = some (.int .i64 y.2.sn)) V) := fun V hV => by
    have h1 := (hV.block G (lt_of_block hp0)).trans hp0
    have h2 := (hV.block H (lt_of_block hq0)).trans hq0
    have x0 := cell_of_row _ G 0 _ _ _ h1
    have x4 := cell_of_row _ G 4 _ _ _ h1
    have y0 := cell_of_row _ H 0 _ _ _ h2
    have y4 := cell_of_row _ H 4 _ _ _ h2
    exact ⟨by simpa using x0, by simpa using x4, by simpa using y0, by simpa using y4⟩
  have HBR : Hid (Below w0.heap.size w0 w0) := Below.refl _ _
  have H0 := Lib.hid hw0
  have HG := Lib.hid hG
  have HH := Lib.hid hH
  rw [← ht]
  clear ht ha hb hG hH hw0 hp0 hq0
  go_enter Try.func67, Try.ntmps67
  go_upto_region 1 with (fail)
  rw [← H0.out, ← HH.out, ← HG.out]
  have HDk : Hid (Below w0.heap.size w0 w0.drew) := HBR.out.drew
  refine wp_region_held_drew (S := fun W : World => W.cell? ⟨G, 0, none⟩ = some (.int .u32 (x.2.id : Int)) ∧ W.cell? ⟨G, 4, none⟩ = some (.int .i64 x.2.sn) ∧ W.cell? ⟨H, 0, none⟩ = some (.int .u32 (y.2.id : Int)) ∧ W.cell? ⟨H, 4, none⟩ = some (.int .i64 y.2.sn)) (by kernel_rfl) (HSS.out _ (HDk.out)) (fun hHeld => ?_)
  obtain ⟨Wk0, hW0⟩ : ∃ W0, W0 = w0.drew := ⟨_, rfl⟩
  have HW00 := Lib.hid hW0
  rw [← hW0] at hHeld HDk ⊢
  clear hW0
  refine wpAnyH_take (i := 0) (oi := ?oi0k) (v := ?v0k) ?hi0k ?hs0k ?hf0k ?hr0k ?hQ0k ?hy0k ?hS0k ?h0k
  case hi0k => exact (by simp only [List.getElem?_toArray, List.getElem?_cons_zero]; rfl)
  case hs0k => kernel_rfl
  case hf0k => kernel_rfl
  case hr0k => kernel_rfl
  case hQ0k => exact fun _ _ _ h => h
  case hy0k =>
    refine Or.inl ⟨rfl, ?_⟩
    intro W hSw
    obtain ⟨q0, q1, q2, q3⟩ := hSw
    go_simp
    try with_reducible rfl
  case hS0k => assumption
  try simp only [Act.put, List.setIfInBounds_toArray, List.set_cons_zero, List.set_cons_succ]
  refine wpAnyH_take (i := 1) (oi := ?oi1k) (v := ?v1k) ?hi1k ?hs1k ?hf1k ?hr1k ?hQ1k ?hy1k ?hS1k ?h1k
  case hi1k => exact (by simp only [List.getElem?_toArray, List.getElem?_cons_succ, List.getElem?_cons_zero]; rfl)
  case hs1k => kernel_rfl
  case hf1k => kernel_rfl
  case hr1k => kernel_rfl
  case hQ1k => exact fun _ _ _ h => h
  case hy1k =>
    refine Or.inl ⟨rfl, ?_⟩
    intro W hSw
    obtain ⟨q0, q1, q2, q3⟩ := hSw
    go_simp
    try with_reducible rfl
  case hS1k => assumption
  try simp only [Act.put, List.setIfInBounds_toArray, List.set_cons_zero, List.set_cons_succ]
  refine wpAnyH_take (i := 2) (oi := ?oi2k) (v := ?v2k) ?hi2k ?hs2k ?hf2k ?hr2k ?hQ2k ?hy2k ?hS2k ?h2k
  case hi2k => exact (by simp only [List.getElem?_toArray, List.getElem?_cons_succ, List.getElem?_cons_zero]; rfl)
  case hs2k => kernel_rfl
  case hf2k => kernel_rfl
  case hr2k => kernel_rfl
  case hQ2k => exact fun _ _ _ h => h
  case hy2k =>
    refine Or.inl ⟨rfl, ?_⟩
    intro W hSw
    obtain ⟨q0, q1, q2, q3⟩ := hSw
    go_simp
    try with_reducible rfl
  case hS2k => assumption
  try simp only [Act.put, List.setIfInBounds_toArray, List.set_cons_zero, List.set_cons_succ]
  refine wpAnyH_take (i := 3) (oi := ?oi3k) (v := ?v3k) ?hi3k ?hs3k ?hf3k ?hr3k ?hQ3k ?hy3k ?hS3k ?h3k
  case hi3k => exact (by simp only [List.getElem?_toArray, List.getElem?_cons_succ, List.getElem?_cons_zero]; rfl)
  case hs3k => kernel_rfl
  case hf3k => kernel_rfl
  case hr3k => kernel_rfl
  case hQ3k => exact fun _ _ _ h => h
  case hy3k =>
    refine Or.inl ⟨rfl, ?_⟩
    intro W hSw
    obtain ⟨q0, q1, q2, q3⟩ := hSw
    go_simp
    try with_reducible rfl
  case hS3k => assumption
  try simp only [Act.put, List.setIfInBounds_toArray, List.set_cons_zero, List.set_cons_succ]
  refine wpAnyH_take (i := 5) (oi := ?oi5k) (v := ?v5k) ?hi5k ?hs5k ?hf5k ?hr5k ?hQ5k ?hy5k ?hS5k ?h5k
  case hi5k => exact (by simp only [List.getElem?_toArray, List.getElem?_cons_succ, List.getElem?_cons_zero]; rfl)
  case hs5k => kernel_rfl
  case hf5k => kernel_rfl
  case hr5k => kernel_rfl
  case hQ5k => exact fun _ _ _ h => h
  case hy5k =>
    refine Or.inl ⟨rfl, ?_⟩
    intro W hSw
    obtain ⟨q0, q1, q2, q3⟩ := hSw
    go_simp
    try with_reducible rfl
  case hS5k => assumption
  try simp only [Act.put, List.setIfInBounds_toArray, List.set_cons_zero, List.set_cons_succ]
  refine wpAnyH_take (i := 6) (oi := ?oi6k) (v := ?v6k) ?hi6k ?hs6k ?hf6k ?hr6k ?hQ6k ?hy6k ?hS6k ?h6k
  case hi6k => exact (by simp only [List.getElem?_toArray, List.getElem?_cons_succ, List.getElem?_cons_zero]; rfl)
  case hs6k => kernel_rfl
  case hf6k => kernel_rfl
  case hr6k => kernel_rfl
  case hQ6k => exact fun _ _ _ h => h
  case hy6k =>
    refine Or.inl ⟨rfl, ?_⟩
    intro W hSw
    obtain ⟨q0, q1, q2, q3⟩ := hSw
    go_simp
    try with_reducible rfl
  case hS6k => assumption
  try simp only [Act.put, List.setIfInBounds_toArray, List.set_cons_zero, List.set_cons_succ]
  refine wpAnyH_take (i := 7) (oi := ?oi7k) (v := ?v7k) ?hi7k ?hs7k ?hf7k ?hr7k ?hQ7k ?hy7k ?hS7k ?h7k
  case hi7k => exact (by simp only [List.getElem?_toArray, List.getElem?_cons_succ, List.getElem?_cons_zero]; rfl)
  case hs7k => kernel_rfl
  case hf7k => kernel_rfl
  case hr7k => kernel_rfl
  case hQ7k => exact fun _ _ _ h => h
  case hy7k =>
    refine Or.inl ⟨rfl, ?_⟩
    intro W hSw
    obtain ⟨q0, q1, q2, q3⟩ := hSw
    go_simp
    try with_reducible rfl
  case hS7k => assumption
  try simp only [Act.put, List.setIfInBounds_toArray, List.set_cons_zero, List.set_cons_succ]
  refine wpAnyH_take (i := 8) (oi := ?oi8k) (v := ?v8k) ?hi8k ?hs8k ?hf8k ?hr8k ?hQ8k ?hy8k ?hS8k ?h8k
  case hi8k => exact (by simp only [List.getElem?_toArray, List.getElem?_cons_succ, List.getElem?_cons_zero]; rfl)
  case hs8k => kernel_rfl
  case hf8k => kernel_rfl
  case hr8k => kernel_rfl
  case hQ8k => exact fun _ _ _ h => h
  case hy8k =>
    refine Or.inl ⟨rfl, ?_⟩
    intro W hSw
    obtain ⟨q0, q1, q2, q3⟩ := hSw
    go_simp
    try with_reducible rfl
  case hS8k => assumption
  try simp only [Act.put, List.setIfInBounds_toArray, List.set_cons_zero, List.set_cons_succ]
  refine wpAnyH_ready (rs := [4]) (by kernel_rfl) (by simp) ?_
  refine AllReadyH.cons (o := _) rfl (fun K hK => ?_) AllReadyH.nil
  go_simp
  refine (HCA.out Wk0).mono ?_
  rintro r Wk1 ⟨rfl, hw, hbq⟩
  have HBk1 := Lib.hid (HDk.out.trans (hbq.mono HDk.out.size))
  have HWA := Lib.hid hw
  clear hw
  clear hbq
  refine hK.out _ _ (HSS.out _ (HBk1.out)) (fun hHeld => ?_)
  clear hK K
  try simp only [Act.put, List.setIfInBounds_toArray, List.set_cons_zero, List.set_cons_succ]
  refine wpAnyH_ready (rs := [9]) (by kernel_rfl) (by simp) ?_
  refine AllReadyH.cons (o := _) rfl (fun K hK => ?_) AllReadyH.nil
  go_simp
  refine (HCB.out Wk1).mono ?_
  rintro r Wk2 ⟨rfl, hw, hbq⟩
  have HBk2 := Lib.hid (HBk1.out.trans (hbq.mono HBk1.out.size))
  have HWC := Lib.hid hw
  clear hw
  clear hbq
  refine hK.out _ _ (HSS.out _ (HBk2.out)) (fun hHeld => ?_)
  clear hK K
  try simp only [Act.put, List.setIfInBounds_toArray, List.set_cons_zero, List.set_cons_succ]
  refine wpAnyH_ready (rs := [10]) (by kernel_rfl) (by simp) ?_
  refine AllReadyH.cons (o := _) rfl (fun K hK => ?_) AllReadyH.nil
  go_simp
  obtain ⟨KB, hKB⟩ : ∃ k, k = Wk2.heap.size := ⟨_, rfl⟩
  obtain ⟨Wb, hWb⟩ : ∃ X, X = Wk2.alloc (.cells #[.int .i64 a, .int .i64 b] 3) := ⟨_, rfl⟩
  have hbb : Below Wk2.heap.size Wk2 Wb := by rw [hWb]; exact (Below.refl _ _).alloc (Nat.le_refl _) _
  have hqb : Wb.heap[KB]? = some (.cells #[.int .i64 a, .int .i64 b] 3 (0, 0)) := by rw [hWb, hKB]; exact heap_alloc_new _ _
  have HBb := Lib.hid (HBk2.out.trans (hbb.mono HBk2.out.size))
  have HOR := Lib.hid (or_any a b KB Wb (lt_of_block hqb) (by have := cell_of_row _ KB 0 _ _ _ hqb; simpa using this) (by have := cell_of_row _ KB 1 _ _ _ hqb; simpa using this))
  rw [← HCT.out] at HOR
  rw [← hWb, ← hKB]
  have HWB := Lib.hid hWb
  clear hWb hKB hbb hqb
  refine hK.out _ _ (HSS.out _ HBb.out) (fun hHeld => ?_)
  clear hK K
  try simp only [Act.put, List.setIfInBounds_toArray, List.set_cons_zero, List.set_cons_succ]
  refine wpAnyH_ready (rs := [11]) (by kernel_rfl) (by simp) ?_
  refine AllReadyH.cons (o := _) rfl (fun K hK => ?_) AllReadyH.nil
  go_simp
  refine (HOR.out).mono ?_
  rintro r Wm1 ⟨rfl, hw, hbq⟩
  have HBm1 := Lib.hid (HBb.out.trans (hbq.mono HBb.out.size))
  have HWD := Lib.hid hw
  clear hw
  clear hbq
  refine hK.out _ _ (HSS.out _ (HBm1.out)) (fun hHeld => ?_)
  clear hK K
  try simp only [Act.put, List.setIfInBounds_toArray, List.set_cons_zero, List.set_cons_succ]
  refine wpAnyH_take (i := 12) (oi := ?oi12m) (v := ?v12m) ?hi12m ?hs12m ?hf12m ?hr12m ?hQ12m ?hy12m ?hS12m ?h12m
  case hi12m => exact (by simp only [List.getElem?_toArray, List.getElem?_cons_succ, List.getElem?_cons_zero]; rfl)
  case hs12m => kernel_rfl
  case hf12m => kernel_rfl
  case hr12m => kernel_rfl
  case hQ12m => exact fun _ _ _ h => h
  case hy12m =>
    refine Or.inl ⟨rfl, ?_⟩
    intro W hSw
    obtain ⟨q0, q1, q2, q3⟩ := hSw
    go_simp
    try with_reducible rfl
  case hS12m => assumption
  try simp only [Act.put, List.setIfInBounds_toArray, List.set_cons_zero, List.set_cons_succ]
  refine wpAnyH_done (by kernel_rfl) ?_ _
  go_wp2_with fail
  go_ret
  refine ⟨by first | rfl | simp, 1, #[.cells (mC x.2.id x.2.md x.1 x.2.rt x.2.sn) 72 (0, 0), .cells (mC y.2.id y.2.md y.1 y.2.rt y.2.sn) 72 (0, 0), .cells #[.int .i64 a, .int .i64 b] 3 (0, 0)], ?_⟩
  rw [HWD.out, HWB.out, HWC.out, HWA.out, HW00.out, H0.out]
  exact grow3 _ _ _ _
end Ytemjmnpclknfaaa.T
end Go.Proofs

/- Queue: Mode's tickets in a row; the sort. -/
namespace Go.Proofs.Ytemjmnpclknfaaa.T
open Go.Shelf Go.RowKit Go.Lib Go.Sort
open Go.Proofs.Ytemjmnpclknfaaa.P (Sl un)
set_option maxRecDepth 20000
set_option linter.unusedVariables false
set_option linter.unusedSimpArgs false

/-- Tickets in a block, whoever's their players are. -/
def Rt (w : World) (g : Nat) (lf : List (Sl × Tk)) : Prop := ∃ cur, w.heap[g]? = some (.cells cur 72 (0, 0)) ∧ ∀ (i : Nat) (e : Sl × Tk), lf[i]? = some e → ∀ (j : Nat) (v : Value), (enT e)[j]? = some v → cur[i * 5 + j]? = some v
theorem Rt.cells {w : World} {g : Nat} {lf : List (Sl × Tk)} (h : Rt w g lf) {i : Nat} {e : Sl × Tk} (hi : lf[i]? = some e) : w.cell? ⟨g, i * 5, none⟩ = some (.int .u32 (e.2.id : Int)) ∧ w.cell? ⟨g, i * 5 + 1, none⟩ = some (.int .i64 e.2.md) ∧ w.cell? ⟨g, i * 5 + 2, none⟩ = some (.slice e.1.a e.1.n e.1.c) ∧ w.cell? ⟨g, i * 5 + 3, none⟩ = some (.int .i64 e.2.rt) ∧ w.cell? ⟨g, i * 5 + 4, none⟩ = some (.int .i64 e.2.sn) := by
  obtain ⟨cur, hb, hc⟩ := h
  have hk : ∀ j v, (enT e)[j]? = some v → w.cell? ⟨g, i * 5 + j, none⟩ = some v := fun j v hv => by rw [cell_of_row w g _ _ _ _ hb]; exact hc i e hi j v hv
  exact ⟨hk 0 _ rfl, hk 1 _ rfl, hk 2 _ rfl, hk 3 _ rfl, hk 4 _ rfl⟩
theorem Rt.lt {w : World} {g : Nat} {lf : List (Sl × Tk)} (h : Rt w g lf) : g < w.heap.size := by
  obtain ⟨cur, hb, hc⟩ := h
  exact lt_of_block hb
theorem Rt.after {w w' : World} {g : Nat} {lf : List (Sl × Tk)} (h : Rt w g lf) (hb : RowKit.Below w.heap.size w w') : Rt w' g lf := by
  obtain ⟨cur, h1, h2⟩ := h
  exact ⟨cur, (hb.block g (lt_of_block h1)).trans h1, h2⟩
abbrev put5 (W : World) (g o : Nat) (a b c d e : Value) : World := (((((W.setCell ⟨g, o, none⟩ a).setCell ⟨g, o + 1, none⟩ b).setCell ⟨g, o + 2, none⟩ c).setCell ⟨g, o + 3, none⟩ d).setCell ⟨g, o + 4, none⟩ e)
theorem put5_row {W : World} {g T : Nat} {cur : Array Value} (o : Nat) (a b c d e : Value) (h : W.heap[g]? = some (.cells cur T (0, 0))) : (put5 W g o a b c d e).heap[g]? = some (.cells (((((cur.setIfInBounds o a).setIfInBounds (o + 1) b).setIfInBounds (o + 2) c).setIfInBounds (o + 3) d).setIfInBounds (o + 4) e) T (0, 0)) :=
  heap_setCell_same _ g _ _ T _ (heap_setCell_same _ g _ _ T _ (heap_setCell_same _ g _ _ T _ (heap_setCell_same _ g _ _ T _ (heap_setCell_same _ g _ _ T _ h))))
theorem put5_other {W : World} {g k : Nat} (o : Nat) (a b c d e : Value) (h : k ≠ g) : (put5 W g o a b c d e).heap[k]? = W.heap[k]? := by
  unfold put5
  rw [RowKit.Below.heap_setCell _ _ _ _ h, RowKit.Below.heap_setCell _ _ _ _ h, RowKit.Below.heap_setCell _ _ _ _ h, RowKit.Below.heap_setCell _ _ _ _ h, RowKit.Below.heap_setCell _ _ _ _ h]
theorem put5_below {k g : Nat} {w W : World} (o : Nat) (a b c d e : Value) (h : RowKit.Below k w W) (hk : k ≤ g) : RowKit.Below k w (put5 W g o a b c d e) := ((((h.setCell hk a).setCell hk b).setCell hk c).setCell hk d).setCell hk e
theorem set5_get (cur : Array Value) (o : Nat) (a b c d e : Value) (hs : o + 4 < cur.size) (p : Nat) : (((((cur.setIfInBounds o a).setIfInBounds (o + 1) b).setIfInBounds (o + 2) c).setIfInBounds (o + 3) d).setIfInBounds (o + 4) e)[p]? = if p = o then some a else if p = o + 1 then some b else if p = o + 2 then some c else if p = o + 3 then some d else if p = o + 4 then some e else cur[p]? := by
  simp only [Array.getElem?_setIfInBounds, Array.size_setIfInBounds]
  by_cases h4 : o + 4 = p
  · rw [if_pos h4, if_pos (by omega), if_neg (by omega), if_neg (by omega), if_neg (by omega), if_neg (by omega), if_pos (by omega)]
  rw [if_neg h4]
  by_cases h3 : o + 3 = p
  · rw [if_pos h3, if_pos (by omega), if_neg (by omega), if_neg (by omega), if_neg (by omega), if_pos (by omega)]
  rw [if_neg h3]
  by_cases h2 : o + 2 = p
  · rw [if_pos h2, if_pos (by omega), if_neg (by omega), if_neg (by omega), if_pos (by omega)]
  rw [if_neg h2]
  by_cases h1 : o + 1 = p
  · rw [if_pos h1, if_pos (by omega), if_neg (by omega), if_pos (by omega)]
  rw [if_neg h1]
  by_cases h0 : o = p
  · rw [if_pos h0, if_pos (by omega), if_pos (by omega)]
  rw [if_neg h0, if_neg (by omega), if_neg (by omega), if_neg (by omega), if_neg (by omega), if_neg (by omega)]
theorem Rt.set {W : World} {g k : Nat} {lf : List (Sl × Tk)} (h : Rt W g lf) {e e' : Sl × Tk} (hk : lf[k]? = some e) : Rt (put5 W g (k * 5) (.int .u32 (e'.2.id : Int)) (.int .i64 e'.2.md) (.slice e'.1.a e'.1.n e'.1.c) (.int .i64 e'.2.rt) (.int .i64 e'.2.sn)) g (lf.set k e') := by
  obtain ⟨cur, h1, h2⟩ := h
  have hs : k * 5 + 4 < cur.size := (Array.getElem?_eq_some_iff.1 (h2 k e hk 4 _ rfl)).1
  have hl := (List.getElem?_eq_some_iff.1 hk).1
  refine ⟨_, put5_row _ _ _ _ _ _ h1, fun i x hx j v hv => ?_⟩
  rw [set5_get _ _ _ _ _ _ _ hs]
  have hj : j < 5 := (List.getElem?_eq_some_iff.1 hv).1
  rw [List.getElem?_set] at hx
  by_cases hki : k = i
  · subst hki
    rw [if_pos rfl, if_pos hl] at hx
    injection hx with hx
    subst hx
    have : j = 0 ∨ j = 1 ∨ j = 2 ∨ j = 3 ∨ j = 4 := by omega
    rcases this with rfl | rfl | rfl | rfl | rfl
    · rw [if_pos (by omega)]; exact hv
    · rw [if_neg (by omega), if_pos (by omega)]; exact hv
    · rw [if_neg (by omega), if_neg (by omega), if_pos (by omega)]; exact hv
    · rw [if_neg (by omega), if_neg (by omega), if_neg (by omega), if_pos (by omega)]; exact hv
    · rw [if_neg (by omega), if_neg (by omega), if_neg (by omega), if_neg (by omega), if_pos (by omega)]; exact hv
  · rw [if_neg hki] at hx
    rw [if_neg (by omega), if_neg (by omega), if_neg (by omega), if_neg (by omega), if_neg (by omega)]
    exact h2 i x hx j v hv
theorem mz_at : ∀ (l : List Mk) (i : Nat) (e : Mk) (j : Nat), l[i]? = some e → j < 5 → (mz l)[i * 5 + j]? = [Value.int .u32 (e.1 : Int), .int .i64 e.2.1, .slice e.2.2.1.a e.2.2.1.n e.2.2.1.c, .int .i64 e.2.2.2.1, .int .i64 e.2.2.2.2][j]?
  | [], i, e, j, h, _ => by simp at h
  | x :: l, 0, e, j, h, hj => by
    obtain rfl : x = e := by simpa using h
    rw [show mz (x :: l) = [.int .u32 (x.1 : Int), .int .i64 x.2.1, .slice x.2.2.1.a x.2.2.1.n x.2.2.1.c, .int .i64 x.2.2.2.1, .int .i64 x.2.2.2.2] ++ mz l from rfl, List.getElem?_append_left (by simp; omega)]
    simp
  | x :: l, i + 1, e, j, h, hj => by
    rw [show mz (x :: l) = [.int .u32 (x.1 : Int), .int .i64 x.2.1, .slice x.2.2.1.a x.2.2.1.n x.2.2.1.c, .int .i64 x.2.2.2.1, .int .i64 x.2.2.2.2] ++ mz l from rfl, List.getElem?_append_right (by simp; omega), ← mz_at l i e j (by simpa using h) hj]
    congr 1
    simp
    omega
theorem fl_keep {w w' : World} {R : Nat} {vi : Value} {s : Sl} {l : List Nat} (h : P.Fl w R vi s l) (hk : ∀ (b : Nat) (cur : Array Value), w.heap[b]? = some (.cells cur 26 (0, 0)) → w'.heap[b]? = w.heap[b]?) : P.Fl w' R vi s l := ⟨h.1, fun hl => by
  obtain ⟨b, o, e1, e2, e3, ⟨cur, e4⟩, e5⟩ := h.2 hl
  have k := hk b cur e4
  exact ⟨b, o, e1, e2, e3, ⟨cur, k.trans e4⟩, fun j x hj => (World.cell?_of_block k).trans (e5 j x hj)⟩⟩
theorem rt_fl {W : World} {g R : Nat} {vi : Value} {s : Sl} {l : List Nat} {lf : List (Sl × Tk)} (hr : Rt W g lf) (h : P.Fl W R vi s l) (o : Nat) (a b c d e : Value) : P.Fl (put5 W g o a b c d e) R vi s l := by
  obtain ⟨cur, h1, _⟩ := hr
  exact fl_keep h fun k cur' hk => put5_other _ _ _ _ _ _ (fun e => by subst e; rw [h1] at hk; injection hk with hk; injection hk with _ hk; exact absurd hk (by decide))
instance : Inhabited Tk := ⟨⟨0, 0, [], 0, 0⟩⟩
instance : Inhabited Sl := ⟨⟨none, 0, 0⟩⟩
def leT (a b : Tk) : Prop := a.sn < b.sn ∨ (a.sn = b.sn ∧ a.id ≤ b.id)
theorem ltT (x y : Sl × Tk) : ltOf cmpT x y = decide (x.2.sn < y.2.sn ∨ (x.2.sn = y.2.sn ∧ x.2.id < y.2.id)) := by
  unfold ltOf cmpT cmp3
  by_cases h1 : x.2.sn < y.2.sn
  · simp [h1]
  · by_cases h2 : y.2.sn < x.2.sn
    · have : ¬ x.2.sn = y.2.sn := by omega
      simp [h1, h2, this]
    · have e : x.2.sn = y.2.sn := by omega
      by_cases h3 : x.2.id < y.2.id
      · simp [e, h3]
      · by_cases h4 : y.2.id < x.2.id <;> simp [e, h3, h4]
theorem swoT : SWO (ltOf cmpT) where
  irrefl x := by rw [ltT]; simp
  trans x y z h1 h2 := by rw [ltT, decide_eq_true_iff] at *; omega
  ntrans x y z h1 h2 := by rw [ltT, decide_eq_false_iff_not] at *; omega
theorem agg72 : ∀ w, (isAgg 72).run Try.prog w = .ok true w := fun w => by kernel_rfl
theorem size72 : ∀ w, (Go.sizeOf 72).run Try.prog w = .ok 5 w := fun w => by kernel_rfl
theorem sort_blk (W : World) (g n : Nat) (d : Array (Sl × Tk)) (os : Array Obj) (k : Nat) (hk : k < W.heap.size) : (sortWorldK enT 5 W g 0 n d os).heap[k]? = if g = k then (W.heap[k]?).map (onCells (putCells id 0 (flatK enT 5 d))) else W.heap[k]? := by
  have e : (sortWorldK enT 5 W g 0 n d os).heap = (W.heap.modify g (onCells (putCells id 0 (flatK enT 5 d)))) ++ os := rfl
  rw [e, Array.getElem?_append_left (by simp; omega), Array.getElem?_modify]
theorem sort_below (W : World) (base g n : Nat) (d : Array (Sl × Tk)) (os : Array Obj) (hb : base ≤ g) (hg : g < W.heap.size) : RowKit.Below base W (sortWorldK enT 5 W g 0 n d os) :=
  ⟨rfl, rfl, rfl, size_sortWorldK_c enT 5 W g 0 n d os, fun k hk => by rw [sort_blk _ _ _ _ _ _ (by omega), if_neg (by omega)]⟩
set_option maxHeartbeats 2000000 in
theorem sort_tk (R : Nat) (vi : Value) (base : Nat) (A : Option Addr) (n c : Nat) (L : List Tk) (w : World) (h : Pw w R vi base A n c L) (hn : n ≤ 1000) :
    Calls Try.prog 66 #[.slice A n c, .func (.func 67) #[] #[]] w fun r w' => r = .returned (.tuple #[]) ∧ ∃ lf : List (Sl × Tk), (lf.map (·.2)).Perm L ∧ (lf.map (·.2)).Pairwise leT ∧ (∀ e ∈ lf, P.Fl w' R vi e.1 e.2.mem) ∧ n = lf.length ∧ (0 < n → ∃ g, A = some ⟨g, 0, none⟩ ∧ base ≤ g ∧ Rt w' g lf) ∧ RowKit.Below base w w' := by
  obtain ⟨lf, rfl, hown, hfl⟩ := h
  have hnl : n = lf.length := by
    have := hown.1
    rw [mz_length, List.length_map] at this
    omega
  have hrt : 0 < n → ∃ g, A = some ⟨g, 0, none⟩ ∧ base ≤ g ∧ Rt w g lf := fun h0 => by
    have hcells := fun g => hown.cells (g := g)
    rcases hown.2 with ⟨_, e⟩ | ⟨g, cap, cur, e, hg, hh, _⟩
    · omega
    · injection e with e _ _
      subst e
      refine ⟨g, rfl, hg, cur, hh, fun i x hx j v hv => ?_⟩
      have hj : j < 5 := (List.getElem?_eq_some_iff.1 hv).1
      have hz := hcells g rfl (i * 5 + j) v (by
        rw [mz_at _ _ _ _ (show (lf.map tk)[i]? = some (tk x) by rw [List.getElem?_map, hx]; rfl) hj]
        exact hv)
      rw [Go.WideShapes.add_plain, cell_of_row w g _ _ _ _ hh, Nat.zero_add] at hz
      exact hz
  by_cases h1 : n ≤ 1
  · refine (qsort_few A n c h1 _ w).mono ?_
    rintro r w' ⟨rfl, rfl⟩
    refine ⟨rfl, lf, List.Perm.refl _, ?_, hfl, hnl, hrt, RowKit.Below.refl _ _⟩
    match lf, hnl with
    | [], _ => exact List.Pairwise.nil
    | [x], _ => exact List.pairwise_singleton _ _
    | _ :: _ :: l, e => simp at e; omega
  · obtain ⟨g, rfl, hg, cur, hh, hc⟩ := hrt (by omega)
    have hlt := lt_of_block hh
    have eg : ∀ args w, (callFunc 67 args).run Try.prog w = .ok (.enter 67 args) w := enters_of Try.func67 (by kernel_rfl) rfl
    have hH : HoldsK enT 5 w g 0 lf.toArray := fun j hj => by
      have hj' : j < lf.length * 5 := by simpa using hj
      refine ⟨?_, frozen_of_row w g _ _ _ hh⟩
      rw [get_flatK _ _ _ _ (by simpa using hj')]
      have hx : lf[j / 5]? = some (lf[j / 5]'(by omega)) := List.getElem?_eq_getElem _
      have hg' : (lf.toArray)[j / 5]! = lf[j / 5]'(by omega) := by simp [show j / 5 < lf.length by omega]
      have hm : j % 5 < (enT (lf[j / 5]'(by omega))).length := by show j % 5 < 5; omega
      have hv : (enT (lf[j / 5]'(by omega)))[j % 5]? = some ((enT (lf[j / 5]'(by omega)))[j % 5]!) := by
        rw [List.getElem?_eq_getElem hm, getElem!_pos (enT (lf[j / 5]'(by omega))) (j % 5) hm]
      have := hc (j / 5) _ hx (j % 5) _ hv
      rw [hg', cell_of_row w g _ _ _ _ hh, show 0 + j = j / 5 * 5 + j % 5 by omega]
      exact this
    have h := AnyQ.slices_SortFunc T.sortTk 5 agg72 size72 enT (fun _ => rfl) (fun x v hv => by simp [enT] at hv; rcases hv with rfl | rfl | rfl | rfl | rfl <;> rfl) cmpT swoT 67 #[] g 0 c lf.toArray w eg (fun _ _ _ _ x y => closure67 x y _) hH hlt (by simp; omega)
    have h' : Calls Try.prog 66 #[.slice (some ⟨g, 0, none⟩) lf.toArray.size c, .func (.func 67) #[] #[]] w _ := h
    simp only [List.size_toArray, ← hnl] at h'
    refine h'.mono ?_
    rintro e w' ⟨rfl, d', m, os, hp, hs, rfl⟩
    have hsz : d'.size = lf.length := by simpa using hp.1
    have hH' := holdsK_sortWorldK enT 5 w g 0 m lf.toArray d' os hlt hH (by simpa using hsz)
    have hpm : d'.toList.Perm lf := by
      have h3 := hp.2.2
      simp at h3
      rw [List.take_of_length_le (by simp; omega), List.take_of_length_le (by omega)] at h3
      exact h3
    refine ⟨rfl, d'.toList, hpm.map _, ?_, fun x hx => ?_, by rw [Array.length_toList, hsz]; exact hnl, fun _ => ⟨g, rfl, hg, ?_⟩, sort_below w base g m d' os hg hlt⟩
    · rw [List.pairwise_map, List.pairwise_iff_getElem]
      intro i j hi hj hij
      simp at hi hj
      have h3 := hs i j (Nat.zero_le _) hij (by omega)
      rw [ltT, getElem!_pos d' i hi, getElem!_pos d' j hj, decide_eq_false_iff_not] at h3
      unfold leT
      simp
      omega
    · refine fl_keep (hfl x (hpm.mem_iff.1 hx)) fun k cur' hk => ?_
      rw [sort_blk _ _ _ _ _ _ (lt_of_block hk), if_neg (fun e => by subst e; rw [hh] at hk; injection hk with hk; injection hk with _ hk; exact absurd hk (by decide))]
    · have hb := sort_blk w g m d' os g hlt
      rw [if_pos rfl, hh] at hb
      refine ⟨_, hb, fun i x hx j v hv => ?_⟩
      rw [Array.getElem?_toList] at hx
      obtain ⟨hi, hx'⟩ := Array.getElem?_eq_some_iff.1 hx
      have hj : j < 5 := (List.getElem?_eq_some_iff.1 hv).1
      have e0 := (hH'.cell (i := i) (c := j) hi hj).1
      have hg' : d'[i]! = x := by rw [getElem!_pos d' i hi]; exact hx'
      rw [hg', Nat.zero_add, cell_of_row _ g _ _ _ _ hb] at e0
      refine e0.trans ?_
      rw [getElem!_pos (enT x) j hj, ← List.getElem?_eq_getElem]
      exact hv
end Go.Proofs.Ytemjmnpclknfaaa.T

/- Queue: Mode. -/
namespace Go.Proofs.Ytemjmnpclknfaaa.T
open Go.RowKit
open Go.Proofs.Ytemjmnpclknfaaa.P (Sl un)
set_option maxRecDepth 20000
set_option linter.unusedVariables false
set_option linter.unusedSimpArgs false

def QModeP (R : Nat) (vi : Value) (L : List Tk) (m : Int) (w : World) (r : Ending) (w' : World) : Prop := ∃ (A : Option Addr) (n c : Nat) (lf : List (Sl × Tk)), r = .returned (.slice A n c) ∧ n = lf.length ∧ (lf.map (·.2)).Perm (L.filter fun e => decide (e.md = m)) ∧ (lf.map (·.2)).Pairwise leT ∧ (∀ e ∈ lf, P.Fl w' R vi e.1 e.2.mem) ∧ (0 < n → ∃ g, A = some ⟨g, 0, none⟩ ∧ w.heap.size ≤ g ∧ Rt w' g lf) ∧ Below w.heap.size w w'
set_option maxHeartbeats 8000000 in
theorem qmode_any (B R : Nat) (mo : Int) (vi : Value) (ms : Sl) (L : List Tk) (m : Int) (w : World) (h : Bq w B R mo vi ms L) (hl : L.length ≤ 1000) (hm : ∀ e ∈ L, e.mem.length ≤ 1000) :
    Calls Try.prog 28 #[qp B, .int .i64 m] w fun r w' => QModeP R vi L m w r w' := by
  have HQB := Lib.hid h
  have HM := Lib.hid hm
  have HOF := Lib.hid (of_any m w)
  obtain ⟨KF, hKF⟩ : ∃ K, K = w.heap.size := ⟨_, rfl⟩
  obtain ⟨w1, hw1⟩ : ∃ W, W = w.alloc (.cells #[.int .i64 m] 3) := ⟨_, rfl⟩
  rw [← hw1, ← hKF] at HOF
  have hb1 : Below w.heap.size w w1 := by rw [hw1]; exact (Below.refl _ _).alloc (Nat.le_refl _) _
  have hq1 : w1.heap[KF]? = some (.cells #[.int .i64 m] 3 (0, 0)) := by rw [hw1, hKF]; exact heap_alloc_new w _
  have HTS := Lib.hid (those_96 B R mo vi ms L KF (fun e => decide (e.md = m)) w1 (h.after hb1) hl (fun W e s' hW he hf =>
    mode_cl e.id e.md e.rt e.sn m s' KF W (Nat.lt_of_lt_of_le (lt_of_block hq1) hW.size) (by
      rw [cell_of_row W KF 0 _ _ _ ((hW.block KF (lt_of_block hq1)).trans hq1)]
      rfl)))
  have HB1 := Lib.hid hb1
  have HL := Lib.hid hl
  clear h hl hm hw1 hb1 hq1 hKF
  go_enter Try.func28, Try.ntmps28
  go_wp2_with fail
  refine HOF.out.mono ?_
  rintro r w1' ⟨rfl, hw⟩
  subst hw
  go_wp2_with fail
  refine HTS.out.mono ?_
  rintro r w2 ⟨A, n, c, rfl, hpw, hb2⟩
  have HB2 : Hid (Below w.heap.size w w2) := HB1.out.trans (hb2.mono HB1.out.size)
  have hn1 : n ≤ 1000 := by
    have h1 := hpw.len
    have h2 : (L.filter fun e => decide (e.md = m)).length ≤ L.length := List.length_filter_le _ _
    have := HL.out
    omega
  have HSO := Lib.hid (sort_tk R vi w1'.heap.size A n c _ w2 hpw hn1)
  clear hpw hb2 HTS
  go_wp2_with fail
  refine HSO.out.mono ?_
  rintro r w3 ⟨rfl, lf0, hpm, hso, hfl, hnl, hrt, hb3⟩
  have HB3 : Hid (Below w.heap.size w w3) := HB2.out.trans (hb3.mono HB1.out.size)
  obtain ⟨LS, hLS⟩ : ∃ l, l = lf0.map (·.2) := ⟨_, rfl⟩
  have HPM : Hid (LS.Perm (L.filter fun e => decide (e.md = m))) := by rw [hLS]; exact hpm
  have HSR : Hid (LS.Pairwise leT) := by rw [hLS]; exact hso
  have HNL : Hid (n = LS.length) := by rw [hLS, Hid, List.length_map]; exact hnl
  have HGA : Hid (0 < n → ∃ g, A = some ⟨g, 0, none⟩ ∧ w.heap.size ≤ g) := fun h0 => by
    obtain ⟨g, e, hg, _⟩ := hrt h0
    exact ⟨g, e, Nat.le_trans HB1.out.size hg⟩
  have HST : Hid (lf0.map (·.2) = LS ∧ (∀ g, 0 < n → A = some ⟨g, 0, none⟩ → Rt w3 g lf0) ∧ (∀ e ∈ lf0, P.Fl w3 R vi e.1 e.2.mem) ∧ Below w.heap.size w w3) := ⟨hLS.symm, fun g h0 he => by
    obtain ⟨g', e, _, h⟩ := hrt h0
    rw [e] at he
    injection he with he
    injection he with he
    subst he
    exact h, hfl, HB3.out⟩
  clear hpm hso hfl hnl hrt hb3 hLS HSO
  go_wp2_with fail
  go_loopw [16] (fun u wr => ∃ (k : Nat) (lf : List (Sl × Tk)), k ≤ n ∧ u = .int .i64 (k : Int) ∧ Hid (lf.map (·.2) = LS ∧ (∀ g, 0 < n → A = some ⟨g, 0, none⟩ → Rt wr g lf) ∧ (∀ e ∈ lf, P.Fl wr R vi e.1 e.2.mem) ∧ Below w.heap.size w wr)) (fun u _ => n - (intOf u).toNat)
  case atStart => exact ⟨0, lf0, by omega, rfl, HST.out⟩
  case round =>
    obtain ⟨k, lf, hk, rfl, HV⟩ := hrel
    by_cases hlt : k < n
    · obtain ⟨g, rfl, hg⟩ := HGA.out (by omega)
      have hll : lf.length = LS.length := by rw [← HV.out.1, List.length_map]
      obtain ⟨e, he⟩ : ∃ e, lf[k]? = some e := ⟨lf[k]'(by rw [hll, ← HNL.out]; exact hlt), List.getElem?_eq_getElem _⟩
      have hrt := HV.out.2.1 g (by omega) rfl
      have hfe := HV.out.2.2.1 e (List.mem_of_getElem? he)
      have HE := Lib.hid he
      have hme : e.2 ∈ L := (List.mem_filter.1 (HPM.out.mem_iff.1 (by rw [← HV.out.1]; exact List.mem_map.2 ⟨e, List.mem_of_getElem? he, rfl⟩))).1
      obtain ⟨c0, c1, c2, c3, c4⟩ := hrt.cells he
      obtain ⟨G, hG⟩ : ∃ G, G = wr.heap.size := ⟨_, rfl⟩
      obtain ⟨w4, hw4⟩ : ∃ W, W = wr.alloc (.cells (mC e.2.id e.2.md e.1 e.2.rt e.2.sn) 72) := ⟨_, rfl⟩
      have hq4 : w4.heap[G]? = some (.cells (mC e.2.id e.2.md e.1 e.2.rt e.2.sn) 72 (0, 0)) := by rw [hw4, hG]; exact heap_alloc_new wr _
      have hb4 : Below wr.heap.size wr w4 := by rw [hw4]; exact (Below.refl _ _).alloc (Nat.le_refl _) _
      have z0 := cell_of_row w4 G 0 _ _ _ hq4
      have z1 := cell_of_row w4 G 1 _ _ _ hq4
      have z2 := cell_of_row w4 G 2 _ _ _ hq4
      have z3 := cell_of_row w4 G 3 _ _ _ hq4
      have z4 := cell_of_row w4 G 4 _ _ _ hq4
      simp at z0 z1 z2 z3 z4
      have HOWN := Lib.hid (own_any e.2.id e.2.md e.2.rt e.2.sn e.1 e.2.mem w4 hfe.1 (hfe.after hb4).rn (HM.out _ hme))
      have HR4 := Lib.hid (hrt.after hb4)
      have HF4 : Hid (∀ e ∈ lf, P.Fl w4 R vi e.1 e.2.mem) := fun e he => (HV.out.2.2.1 e he).after hb4
      have HB4 : Hid (Below w.heap.size w w4) := HV.out.2.2.2.trans (hb4.mono HV.out.2.2.2.size)
      have HGG := Lib.hid hG
      have H4 := Lib.hid hw4
      have HG0 := Lib.hid hg
      clear hrt hfe he hme hq4 hb4 hw4 hG hg hll
      go_upto_region 6 with (fail)
      rw [← H4.out, ← HGG.out]
      go_wp2_with fail
      refine HOWN.out.mono ?_
      rintro r w5 ⟨A5, c5, rfl, ho, hb5⟩
      have hr5 := HR4.out.after hb5
      have HFR : Hid (P.Fl w5 R vi ⟨A5, e.2.mem.length, c5⟩ e.2.mem) := P.Fl.fresh ((HQB.out.after HB4.out).ctx) (Nat.le_refl _) ho
      have HF5 : Hid (∀ e ∈ lf, P.Fl w5 R vi e.1 e.2.mem) := fun e he => (HF4.out e he).after hb5
      have HB5 : Hid (Below w.heap.size w w5) := HB4.out.trans (hb5.mono HB4.out.size)
      have HR5 := Lib.hid hr5
      obtain ⟨y0, y1, y2, y3, y4⟩ := hr5.cells HE.out
      have yf : ∀ i, w5.frozen? ⟨g, i, none⟩ = false := fun i => by
        obtain ⟨cur, hb, _⟩ := HR5.out
        exact frozen_of_row w5 g i _ _ hb
      obtain ⟨w6, hw6⟩ : ∃ W, W = (((((w5.setCell ⟨g, k * 5, none⟩ (.int .u32 (e.2.id : Int))).setCell ⟨g, k * 5 + 1, none⟩ (.int .i64 e.2.md)).setCell ⟨g, k * 5 + 2, none⟩ (.slice A5 e.2.mem.length c5)).setCell ⟨g, k * 5 + 3, none⟩ (.int .i64 e.2.rt)).setCell ⟨g, k * 5 + 4, none⟩ (.int .i64 e.2.sn)) := ⟨_, rfl⟩
      have HV6 : Hid ((lf.set k (⟨A5, e.2.mem.length, c5⟩, e.2)).map (·.2) = LS ∧ (∀ g', 0 < n → some (⟨g, 0, none⟩ : Addr) = some ⟨g', 0, none⟩ → Rt w6 g' (lf.set k (⟨A5, e.2.mem.length, c5⟩, e.2))) ∧ (∀ x ∈ lf.set k (⟨A5, e.2.mem.length, c5⟩, e.2), P.Fl w6 R vi x.1 x.2.mem) ∧ Below w.heap.size w w6) := by
        refine ⟨?_, fun g' h0 hg' => ?_, fun x hx => ?_, by rw [hw6]; exact put5_below (k * 5) _ _ _ _ _ HB5.out HG0.out⟩
        · rw [← HV.out.1, List.map_set]
          refine List.ext_getElem? fun i => ?_
          rw [List.getElem?_set]
          split
          · subst_vars
            rw [List.getElem?_map, HE.out]
            split
            · rfl
            · rename_i hh
              rw [List.length_map] at hh
              exact absurd (List.getElem?_eq_some_iff.1 HE.out).1 hh
          · rfl
        · injection hg' with hg'
          injection hg' with hg'
          subst hg'
          rw [hw6]
          exact HR5.out.set (e' := (⟨A5, e.2.mem.length, c5⟩, e.2)) HE.out
        · rw [hw6]
          rcases List.mem_or_eq_of_mem_set hx with hx | rfl
          · exact rt_fl HR5.out (HF5.out x hx) _ _ _ _ _ _
          · exact rt_fl HR5.out HFR.out _ _ _ _ _ _
      have HW6 := Lib.hid hw6
      clear hr5 ho hb5 hw6 z0 z1 z2 z3 z4 c0 c1 c2 c3 c4
      go_wp2_with fail
      go_roundw
      case rel => exact ⟨k + 1, _, by omega, by go_num, by first | exact HV6.out | (rw [← HW6.out]; exact HV6.out)⟩
      case measure => simp [intOf] <;> omega
    · have hkn : k = n := by omega
      subst hkn
      have HFIN : Hid (QModeP R vi L m w (.returned (.slice A k c)) wr) := ⟨A, k, c, lf, rfl, by rw [HNL.out, ← HV.out.1, List.length_map], by rw [HV.out.1]; exact HPM.out, by rw [HV.out.1]; exact HSR.out, HV.out.2.2.1, fun h0 => by
        obtain ⟨g, e, hg⟩ := HGA.out h0
        exact ⟨g, e, hg, HV.out.2.1 g h0 e⟩, HV.out.2.2.2⟩
      go_wp2
      go_ret
      exact HFIN.out
end Go.Proofs.Ytemjmnpclknfaaa.T
