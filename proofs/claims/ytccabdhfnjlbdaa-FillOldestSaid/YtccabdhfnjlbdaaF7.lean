/- Fill: Team, the program's and the document's. -/
import Derived.Test.YtccabdhfnjlbdaaF6
namespace Go.Proofs.Ytccabdhfnjlbdaa
open Go.RowKit
set_option maxRecDepth 20000
set_option linter.unusedVariables false

/-- The team that has room. -/
def teamP (m : Mo) (p : Int) (l : List Rw) : Int :=
  if m.wr = [] ∧ 1 ≤ p then (if takP 2 l < takP 1 l then (if p ≤ m.k - takP 2 l then 2 else 0) else (if p ≤ m.k - takP 1 l then 1 else 0)) else 0
theorem Mo.bounds {m : Mo} (h : m.wr = []) : 1 ≤ m.k ∧ m.k ≤ 4 := (wrongM_bounds (k := m.k) (b := m.b) (s := m.s) (c := m.c) (e := m.e) (by show (Mo.wr m).isEmpty = true; rw [h]; rfl)).1
theorem isE_ne {l : List UInt8} (h : ¬ l = []) : l.isEmpty = false := by cases l with
  | nil => exact absurd rfl h
  | cons a l => rfl

set_option maxHeartbeats 8000000 in
theorem team_any (m : Mo) (p : Int) (A : Option Addr) (n c : Nat) (l : List Rw) (w : World) (hp : In64 p) (hn : n = l.length) (hE : Rs w w.heap.size A l) (hS : ∀ e ∈ l, e.n ≤ 10) (hl : n ≤ 100) :
    Calls Try.prog 11 #[m.v, .int .i64 p, .slice A n c] w fun r w' => r = .returned (.int .i64 (teamP m p l)) ∧ Below w.heap.size w w' := by
  obtain ⟨w0, hw0⟩ : ∃ w0, w0 = w.alloc (.cells m.cells 35) := ⟨_, rfl⟩
  have hb0 : Below w.heap.size w w0 := by rw [hw0]; exact (Below.refl _ _).alloc (Nat.le_refl _) _
  have hp0 : w0.heap[w.heap.size]? = some (.cells m.cells 35 (0, 0)) := by rw [hw0]; exact heap_alloc_new w _
  have HCE : Hid (∀ W, Below w0.heap.size w0 W → W.cell? ⟨w.heap.size, 0, none⟩ = some (.int .i64 m.k) ∧ W.cell? ⟨w.heap.size, 1, none⟩ = some (.int .i64 m.b) ∧ W.cell? ⟨w.heap.size, 2, none⟩ = some (.int .i64 m.s) ∧ W.cell? ⟨w.heap.size, 3, none⟩ = some (.int .i64 m.c) ∧ W.cell? ⟨w.heap.size, 4, none⟩ = some (.int .i64 m.e)) := fun W hW => by
    have e2 := (hW.block _ (lt_of_block hp0)).trans hp0
    exact ⟨cell_of_row W _ 0 _ _ _ e2, cell_of_row W _ 1 _ _ _ e2, cell_of_row W _ 2 _ _ _ e2, cell_of_row W _ 3 _ _ _ e2, cell_of_row W _ 4 _ _ _ e2⟩
  have HT := Lib.hid (taken_any A n c l w0 hn (hE.later hb0 (Nat.le_refl _)) hS hl)
  have hXb := takP_bd 1 l hS
  have hYb := takP_bd 2 l hS
  obtain ⟨res, hres⟩ : ∃ res, res = teamP m p l := ⟨_, rfl⟩
  rw [← hres]
  unfold teamP at hres
  obtain ⟨X, hX⟩ : ∃ X, X = takP 1 l := ⟨_, rfl⟩
  obtain ⟨Y, hY⟩ : ∃ Y, Y = takP 2 l := ⟨_, rfl⟩
  rw [← hX, ← hY] at hres HT
  rw [← hX] at hXb
  rw [← hY] at hYb
  have hXc : 0 ≤ X ∧ X ≤ 1000 := by omega
  have hYc : 0 ≤ Y ∧ Y ≤ 1000 := by omega
  have hkb : m.wr = [] → 1 ≤ m.k ∧ m.k ≤ 4 := Mo.bounds
  obtain ⟨mw, hmw⟩ : ∃ mw, mw = m.wr := ⟨_, rfl⟩
  have HW : Hid (∀ W, Calls Try.prog 23 #[m.v] W fun r w' => r = .returned (sV mw) ∧ Below W.heap.size W w') := fun W => by rw [hmw]; exact wrongM_any m.k m.b m.s m.c m.e W
  rw [← hmw] at hres hkb
  have H0 := Lib.hid hw0
  have HB0 := Lib.hid hb0
  obtain ⟨hp1, hp2⟩ := hp
  clear hw0 hb0 hp0 hX hY hXb hYb hmw hE hS hn hl
  by_cases hYX : Y < X
  · by_cases he : mw = []
    · obtain ⟨hk1, hk2⟩ := hkb he
      by_cases h1 : 1 ≤ p
      · by_cases h2 : p ≤ m.k - Y
        · rw [if_pos ⟨he, h1⟩, if_pos hYX, if_pos h2] at hres
          subst hres he
          go_enter Try.func11, Try.ntmps11
          go_upto_region 1 with (fail)
          rw [← H0.out]
          go_wp2_with fail
          refine HT.out.mono ?_
          rintro r w1 ⟨rfl, hb1⟩
          have HB1 := Lib.hid hb1
          clear hb1
          obtain ⟨c0, c1, c2, c3, c4⟩ := HCE.out w1 HB1.out
          go_wp2_with fail
          refine (HW.out w1).mono ?_
          rintro r w2 ⟨rfl, hb2⟩
          have HB2 := Lib.hid (HB1.out.trans (hb2.mono HB1.out.size))
          clear hb2 c0 c1 c2 c3 c4
          obtain ⟨c0, c1, c2, c3, c4⟩ := HCE.out w2 HB2.out
          go_wp2
          go_ret
          exact ⟨rfl, HB0.out.trans (HB2.out.mono HB0.out.size)⟩
        · rw [if_pos ⟨he, h1⟩, if_pos hYX, if_neg h2] at hres
          subst hres he
          go_enter Try.func11, Try.ntmps11
          go_upto_region 1 with (fail)
          rw [← H0.out]
          go_wp2_with fail
          refine HT.out.mono ?_
          rintro r w1 ⟨rfl, hb1⟩
          have HB1 := Lib.hid hb1
          clear hb1
          obtain ⟨c0, c1, c2, c3, c4⟩ := HCE.out w1 HB1.out
          go_wp2_with fail
          refine (HW.out w1).mono ?_
          rintro r w2 ⟨rfl, hb2⟩
          have HB2 := Lib.hid (HB1.out.trans (hb2.mono HB1.out.size))
          clear hb2 c0 c1 c2 c3 c4
          obtain ⟨c0, c1, c2, c3, c4⟩ := HCE.out w2 HB2.out
          go_wp2
          go_ret
          exact ⟨rfl, HB0.out.trans (HB2.out.mono HB0.out.size)⟩
      · rw [if_neg (fun h => h1 h.2)] at hres
        subst hres he
        go_enter Try.func11, Try.ntmps11
        go_upto_region 1 with (fail)
        rw [← H0.out]
        go_wp2_with fail
        refine HT.out.mono ?_
        rintro r w1 ⟨rfl, hb1⟩
        have HB1 := Lib.hid hb1
        clear hb1
        obtain ⟨c0, c1, c2, c3, c4⟩ := HCE.out w1 HB1.out
        go_wp2_with fail
        refine (HW.out w1).mono ?_
        rintro r w2 ⟨rfl, hb2⟩
        have HB2 := Lib.hid (HB1.out.trans (hb2.mono HB1.out.size))
        clear hb2 c0 c1 c2 c3 c4
        obtain ⟨c0, c1, c2, c3, c4⟩ := HCE.out w2 HB2.out
        go_wp2
        go_ret
        exact ⟨rfl, HB0.out.trans (HB2.out.mono HB0.out.size)⟩
    · have hef := isE_ne he
      rw [if_neg (fun h => he h.1)] at hres
      subst hres
      go_enter Try.func11, Try.ntmps11
      go_upto_region 1 with (fail)
      rw [← H0.out]
      go_wp2_with fail
      refine HT.out.mono ?_
      rintro r w1 ⟨rfl, hb1⟩
      have HB1 := Lib.hid hb1
      clear hb1
      obtain ⟨c0, c1, c2, c3, c4⟩ := HCE.out w1 HB1.out
      go_wp2_with fail
      refine (HW.out w1).mono ?_
      rintro r w2 ⟨rfl, hb2⟩
      have HB2 := Lib.hid (HB1.out.trans (hb2.mono HB1.out.size))
      clear hb2 c0 c1 c2 c3 c4
      obtain ⟨c0, c1, c2, c3, c4⟩ := HCE.out w2 HB2.out
      go_wp2
      go_ret
      exact ⟨rfl, HB0.out.trans (HB2.out.mono HB0.out.size)⟩
  · by_cases he : mw = []
    · obtain ⟨hk1, hk2⟩ := hkb he
      by_cases h1 : 1 ≤ p
      · by_cases h2 : p ≤ m.k - X
        · rw [if_pos ⟨he, h1⟩, if_neg hYX, if_pos h2] at hres
          subst hres he
          go_enter Try.func11, Try.ntmps11
          go_upto_region 1 with (fail)
          rw [← H0.out]
          go_wp2_with fail
          refine HT.out.mono ?_
          rintro r w1 ⟨rfl, hb1⟩
          have HB1 := Lib.hid hb1
          clear hb1
          obtain ⟨c0, c1, c2, c3, c4⟩ := HCE.out w1 HB1.out
          go_wp2_with fail
          refine (HW.out w1).mono ?_
          rintro r w2 ⟨rfl, hb2⟩
          have HB2 := Lib.hid (HB1.out.trans (hb2.mono HB1.out.size))
          clear hb2 c0 c1 c2 c3 c4
          obtain ⟨c0, c1, c2, c3, c4⟩ := HCE.out w2 HB2.out
          go_wp2
          go_ret
          exact ⟨rfl, HB0.out.trans (HB2.out.mono HB0.out.size)⟩
        · rw [if_pos ⟨he, h1⟩, if_neg hYX, if_neg h2] at hres
          subst hres he
          go_enter Try.func11, Try.ntmps11
          go_upto_region 1 with (fail)
          rw [← H0.out]
          go_wp2_with fail
          refine HT.out.mono ?_
          rintro r w1 ⟨rfl, hb1⟩
          have HB1 := Lib.hid hb1
          clear hb1
          obtain ⟨c0, c1, c2, c3, c4⟩ := HCE.out w1 HB1.out
          go_wp2_with fail
          refine (HW.out w1).mono ?_
          rintro r w2 ⟨rfl, hb2⟩
          have HB2 := Lib.hid (HB1.out.trans (hb2.mono HB1.out.size))
          clear hb2 c0 c1 c2 c3 c4
          obtain ⟨c0, c1, c2, c3, c4⟩ := HCE.out w2 HB2.out
          go_wp2
          go_ret
          exact ⟨rfl, HB0.out.trans (HB2.out.mono HB0.out.size)⟩
      · rw [if_neg (fun h => h1 h.2)] at hres
        subst hres he
        go_enter Try.func11, Try.ntmps11
        go_upto_region 1 with (fail)
        rw [← H0.out]
        go_wp2_with fail
        refine HT.out.mono ?_
        rintro r w1 ⟨rfl, hb1⟩
        have HB1 := Lib.hid hb1
        clear hb1
        obtain ⟨c0, c1, c2, c3, c4⟩ := HCE.out w1 HB1.out
        go_wp2_with fail
        refine (HW.out w1).mono ?_
        rintro r w2 ⟨rfl, hb2⟩
        have HB2 := Lib.hid (HB1.out.trans (hb2.mono HB1.out.size))
        clear hb2 c0 c1 c2 c3 c4
        obtain ⟨c0, c1, c2, c3, c4⟩ := HCE.out w2 HB2.out
        go_wp2
        go_ret
        exact ⟨rfl, HB0.out.trans (HB2.out.mono HB0.out.size)⟩
    · have hef := isE_ne he
      rw [if_neg (fun h => he h.1)] at hres
      subst hres
      go_enter Try.func11, Try.ntmps11
      go_upto_region 1 with (fail)
      rw [← H0.out]
      go_wp2_with fail
      refine HT.out.mono ?_
      rintro r w1 ⟨rfl, hb1⟩
      have HB1 := Lib.hid hb1
      clear hb1
      obtain ⟨c0, c1, c2, c3, c4⟩ := HCE.out w1 HB1.out
      go_wp2_with fail
      refine (HW.out w1).mono ?_
      rintro r w2 ⟨rfl, hb2⟩
      have HB2 := Lib.hid (HB1.out.trans (hb2.mono HB1.out.size))
      clear hb2 c0 c1 c2 c3 c4
      obtain ⟨c0, c1, c2, c3, c4⟩ := HCE.out w2 HB2.out
      go_wp2
      go_ret
      exact ⟨rfl, HB0.out.trans (HB2.out.mono HB0.out.size)⟩

set_option maxHeartbeats 8000000 in
theorem rteam_any (m : Mo) (p : Int) (A : Option Addr) (n c : Nat) (l : List Rw) (w : World) (hp : In64 p) (hn : n = l.length) (hE : Rs w w.heap.size A l) (hS : ∀ e ∈ l, e.n ≤ 10) (hl : n ≤ 100) :
    Calls Try.prog 13 #[m.v, .int .i64 p, .slice A n c] w fun r w' => r = .returned (.int .i64 (teamP m p l)) ∧ Below w.heap.size w w' := by
  obtain ⟨w0, hw0⟩ : ∃ w0, w0 = w.alloc (.cells m.cells 23) := ⟨_, rfl⟩
  have hb0 : Below w.heap.size w w0 := by rw [hw0]; exact (Below.refl _ _).alloc (Nat.le_refl _) _
  have hp0 : w0.heap[w.heap.size]? = some (.cells m.cells 23 (0, 0)) := by rw [hw0]; exact heap_alloc_new w _
  have HCE : Hid (∀ W, Below w0.heap.size w0 W → W.cell? ⟨w.heap.size, 0, none⟩ = some (.int .i64 m.k) ∧ W.cell? ⟨w.heap.size, 1, none⟩ = some (.int .i64 m.b) ∧ W.cell? ⟨w.heap.size, 2, none⟩ = some (.int .i64 m.s) ∧ W.cell? ⟨w.heap.size, 3, none⟩ = some (.int .i64 m.c) ∧ W.cell? ⟨w.heap.size, 4, none⟩ = some (.int .i64 m.e)) := fun W hW => by
    have e2 := (hW.block _ (lt_of_block hp0)).trans hp0
    exact ⟨cell_of_row W _ 0 _ _ _ e2, cell_of_row W _ 1 _ _ _ e2, cell_of_row W _ 2 _ _ _ e2, cell_of_row W _ 3 _ _ _ e2, cell_of_row W _ 4 _ _ _ e2⟩
  have HRT : Hid (∀ W (t : Int), Below w0.heap.size w0 W → Calls Try.prog 10 #[.slice A n c, .int .i64 t] W fun r w' => r = .returned (.int .i64 (takP t l)) ∧ Below W.heap.size W w') := fun W t hW => (rtaken_any t A n c l W hn ((hE.later hb0 (Nat.le_refl _)).later hW (Nat.le_refl _)) hS hl).mono fun r w' h => ⟨h.1, by rw [h.2]; exact Below.refl _ _⟩
  have hXb := takP_bd 1 l hS
  have hYb := takP_bd 2 l hS
  have hXc : 0 ≤ takP 1 l ∧ takP 1 l ≤ 1000 := by omega
  have hYc : 0 ≤ takP 2 l ∧ takP 2 l ≤ 1000 := by omega
  obtain ⟨res, hres⟩ : ∃ res, res = teamP m p l := ⟨_, rfl⟩
  rw [← hres]
  unfold teamP at hres
  have hkb : m.wr = [] → 1 ≤ m.k ∧ m.k ≤ 4 := Mo.bounds
  obtain ⟨mw, hmw⟩ : ∃ mw, mw = m.wr := ⟨_, rfl⟩
  have HW : Hid (∀ W, Calls Try.prog 24 #[m.v] W fun r w' => r = .returned (sV mw) ∧ Below W.heap.size W w') := fun W => by rw [hmw]; exact rwrongM_any m.k m.b m.s m.c m.e W
  rw [← hmw] at hres hkb
  have H0 := Lib.hid hw0
  have HB0 := Lib.hid hb0
  obtain ⟨hp1, hp2⟩ := hp
  clear hw0 hb0 hp0 hXb hYb hmw hE hS hn hl
  by_cases he : mw = []
  · obtain ⟨hk1, hk2⟩ := hkb he
    by_cases h1 : 1 ≤ p
    · by_cases h2 : p ≤ m.k
      · rw [if_pos ⟨he, h1⟩] at hres
        subst he
        go_enter Try.func13, Try.ntmps13
        go_upto_region 1 with (fail)
        rw [← H0.out]
        obtain ⟨c0, c1, c2, c3, c4⟩ := HCE.out w0 (Below.refl _ _)
        go_wp2_with fail
        refine (HW.out w0).mono ?_
        rintro r w1 ⟨rfl, hb1⟩
        have HB1 := Lib.hid hb1
        clear hb1 c0 c1 c2 c3 c4
        obtain ⟨c0, c1, c2, c3, c4⟩ := HCE.out w1 HB1.out
        obtain ⟨b1, hb1⟩ : ∃ b1, b1 = if takP 1 l ≤ m.k - p then (1 : Int) else 0 := ⟨_, rfl⟩
        have HB1' := Lib.hid hb1
        have HRES := Lib.hid hres
        clear hb1 hres
        go_wp2_with fail
        go_loopw [7, 8] (fun b u wr => ∃ (bs tm : Int), b = .int .i64 bs ∧ u = .int .i64 tm ∧ ((tm = 1 ∧ bs = 0) ∨ (tm = 2 ∧ bs = b1) ∨ (tm = 3 ∧ bs = res)) ∧ Hid (Below w0.heap.size w0 wr)) (fun _ u _ => (4 - intOf u).toNat)
        case atStart => exact ⟨0, 1, rfl, rfl, .inl ⟨rfl, rfl⟩, HB1.out⟩
        case round =>
          obtain ⟨bs, tm, rfl, rfl, (⟨rfl, rfl⟩ | ⟨rfl, rfl⟩ | ⟨rfl, rfl⟩), HB9⟩ := hrel
          · by_cases h3 : takP 1 l ≤ m.k - p
            · have hz := HB1'.out
              rw [if_pos h3] at hz
              subst hz
              have hwr : IntKind.i64.wrap (m.k - p) = m.k - p := by rw [IntKind.wrap_i64]; omega
              go_upto_region 7 with (fail)
              have HDa : Hid (Below w0.heap.size w0 wr.drew) := HB9.out.drew
              refine wp_region_held_drew (S := fun W : World => W.cell? ⟨w.heap.size, 0, none⟩ = some (.int .i64 m.k)) (by kernel_rfl) ((HCE.out _ (HDa.out)).1) (fun hHeld => ?_)
              obtain ⟨Wa0, hW0⟩ : ∃ W0, W0 = wr.drew := ⟨_, rfl⟩
              rw [← hW0] at hHeld HDa ⊢
              clear hW0
              refine wpAnyH_take (i := 0) (oi := ?oi0a) (v := ?v0a) ?hi0a ?hs0a ?hf0a ?hr0a ?hQ0a ?hy0a ?hS0a ?h0a
              case hi0a => exact (by simp only [List.getElem?_toArray, List.getElem?_cons_zero]; rfl)
              case hs0a => kernel_rfl
              case hf0a => kernel_rfl
              case hr0a => kernel_rfl
              case hQ0a => exact fun _ _ _ h => h
              case hy0a =>
                refine Or.inl ⟨rfl, ?_⟩
                intro W hSw
                go_simp
                try with_reducible rfl
              case hS0a => assumption
              try simp only [Act.put, List.setIfInBounds_toArray, List.set_cons_zero, List.set_cons_succ]
              refine wpAnyH_take (i := 1) (oi := ?oi1a) (v := ?v1a) ?hi1a ?hs1a ?hf1a ?hr1a ?hQ1a ?hy1a ?hS1a ?h1a
              case hi1a => exact (by simp only [List.getElem?_toArray, List.getElem?_cons_succ, List.getElem?_cons_zero]; rfl)
              case hs1a => kernel_rfl
              case hf1a => kernel_rfl
              case hr1a => kernel_rfl
              case hQ1a => exact fun _ _ _ h => h
              case hy1a =>
                refine Or.inl ⟨rfl, ?_⟩
                intro W hSw
                go_simp
                try with_reducible rfl
              case hS1a => assumption
              try simp only [Act.put, List.setIfInBounds_toArray, List.set_cons_zero, List.set_cons_succ]
              refine wpAnyH_take (i := 3) (oi := ?oi3a) (v := ?v3a) ?hi3a ?hs3a ?hf3a ?hr3a ?hQ3a ?hy3a ?hS3a ?h3a
              case hi3a => exact (by simp only [List.getElem?_toArray, List.getElem?_cons_succ, List.getElem?_cons_zero]; rfl)
              case hs3a => kernel_rfl
              case hf3a => kernel_rfl
              case hr3a => kernel_rfl
              case hQ3a => exact fun _ _ _ h => h
              case hy3a =>
                refine Or.inl ⟨rfl, ?_⟩
                intro W hSw
                go_simp
                try with_reducible rfl
              case hS3a => assumption
              try simp only [Act.put, List.setIfInBounds_toArray, List.set_cons_zero, List.set_cons_succ]
              refine wpAnyH_take (i := 4) (oi := ?oi4a) (v := ?v4a) ?hi4a ?hs4a ?hf4a ?hr4a ?hQ4a ?hy4a ?hS4a ?h4a
              case hi4a => exact (by simp only [List.getElem?_toArray, List.getElem?_cons_succ, List.getElem?_cons_zero]; rfl)
              case hs4a => kernel_rfl
              case hf4a => kernel_rfl
              case hr4a => kernel_rfl
              case hQ4a => exact fun _ _ _ h => h
              case hy4a =>
                refine Or.inl ⟨rfl, ?_⟩
                intro W hSw
                go_simp
                try with_reducible rfl
              case hS4a => assumption
              try simp only [Act.put, List.setIfInBounds_toArray, List.set_cons_zero, List.set_cons_succ]
              refine wpAnyH_take (i := 5) (oi := ?oi5a) (v := ?v5a) ?hi5a ?hs5a ?hf5a ?hr5a ?hQ5a ?hy5a ?hS5a ?h5a
              case hi5a => exact (by simp only [List.getElem?_toArray, List.getElem?_cons_succ, List.getElem?_cons_zero]; rfl)
              case hs5a => kernel_rfl
              case hf5a => kernel_rfl
              case hr5a => kernel_rfl
              case hQ5a => exact fun _ _ _ h => h
              case hy5a =>
                refine Or.inl ⟨rfl, ?_⟩
                intro W hSw
                go_simp
                try with_reducible rfl
              case hS5a => assumption
              try simp only [Act.put, List.setIfInBounds_toArray, List.set_cons_zero, List.set_cons_succ]
              refine wpAnyH_take (i := 6) (oi := ?oi6a) (v := ?v6a) ?hi6a ?hs6a ?hf6a ?hr6a ?hQ6a ?hy6a ?hS6a ?h6a
              case hi6a => exact (by simp only [List.getElem?_toArray, List.getElem?_cons_succ, List.getElem?_cons_zero]; rfl)
              case hs6a => kernel_rfl
              case hf6a => kernel_rfl
              case hr6a => kernel_rfl
              case hQ6a => exact fun _ _ _ h => h
              case hy6a =>
                refine Or.inl ⟨rfl, ?_⟩
                intro W hSw
                go_simp
                try with_reducible rfl
              case hS6a => assumption
              try simp only [Act.put, List.setIfInBounds_toArray, List.set_cons_zero, List.set_cons_succ]
              refine wpAnyH_ready (rs := [2]) (by kernel_rfl) (by simp) ?_
              refine AllReadyH.cons (o := _) rfl (fun K hK => ?_) AllReadyH.nil
              go_simp
              refine (HRT.out Wa0 _ HDa.out).mono ?_
              rintro r Wa1 ⟨rfl, hbq⟩
              have HBa1 := Lib.hid (HDa.out.trans (hbq.mono HDa.out.size))
              clear hbq
              refine hK.out _ _ ((HCE.out _ (HBa1.out)).1) (fun hHeld => ?_)
              clear hK K
              try simp only [Act.put, List.setIfInBounds_toArray, List.set_cons_zero, List.set_cons_succ]
              refine wpAnyH_take (i := 7) (oi := ?oi7a) (v := (.bool true)) ?hi7a ?hs7a ?hf7a ?hr7a ?hQ7a ?hy7a ?hS7a ?h7a
              case hi7a => exact (by simp only [List.getElem?_toArray, List.getElem?_cons_succ, List.getElem?_cons_zero]; rfl)
              case hs7a => kernel_rfl
              case hf7a => kernel_rfl
              case hr7a => kernel_rfl
              case hQ7a => exact fun _ _ _ h => h
              case hy7a =>
                refine Or.inl ⟨rfl, ?_⟩
                intro W hSw
                go_simp
                try simp [hwr, h3]
              case hS7a => assumption
              try simp only [Act.put, List.setIfInBounds_toArray, List.set_cons_zero, List.set_cons_succ]
              refine wpAnyH_take (i := 8) (oi := ?oi8a) (v := ?v8a) ?hi8a ?hs8a ?hf8a ?hr8a ?hQ8a ?hy8a ?hS8a ?h8a
              case hi8a => exact (by simp only [List.getElem?_toArray, List.getElem?_cons_succ, List.getElem?_cons_zero]; rfl)
              case hs8a => kernel_rfl
              case hf8a => kernel_rfl
              case hr8a => kernel_rfl
              case hQ8a => exact fun _ _ _ h => h
              case hy8a =>
                refine Or.inl ⟨rfl, ?_⟩
                intro W hSw
                go_simp
                try with_reducible rfl
              case hS8a => assumption
              try simp only [Act.put, List.setIfInBounds_toArray, List.set_cons_zero, List.set_cons_succ]
              refine wpAnyH_take (i := 9) (oi := ?oi9a) (v := ?v9a) ?hi9a ?hs9a ?hf9a ?hr9a ?hQ9a ?hy9a ?hS9a ?h9a
              case hi9a => exact (by simp only [List.getElem?_toArray, List.getElem?_cons_succ, List.getElem?_cons_zero]; rfl)
              case hs9a => kernel_rfl
              case hf9a => kernel_rfl
              case hr9a => kernel_rfl
              case hQ9a => exact fun _ _ _ h => h
              case hy9a =>
                refine Or.inl ⟨rfl, ?_⟩
                intro W hSw
                go_simp
                try with_reducible rfl
              case hS9a => assumption
              try simp only [Act.put, List.setIfInBounds_toArray, List.set_cons_zero, List.set_cons_succ]
              refine wpAnyH_take (i := 10) (oi := ?oi10a) (v := ?v10a) ?hi10a ?hs10a ?hf10a ?hr10a ?hQ10a ?hy10a ?hS10a ?h10a
              case hi10a => exact (by simp only [List.getElem?_toArray, List.getElem?_cons_succ, List.getElem?_cons_zero]; rfl)
              case hs10a => kernel_rfl
              case hf10a => kernel_rfl
              case hr10a => kernel_rfl
              case hQ10a => exact fun _ _ _ h => h
              case hy10a =>
                refine Or.inl ⟨rfl, ?_⟩
                intro W hSw
                go_simp
                try with_reducible rfl
              case hS10a => assumption
              try simp only [Act.put, List.setIfInBounds_toArray, List.set_cons_zero, List.set_cons_succ]
              refine wpAnyH_take (i := 11) (oi := ?oi11a) (v := ?v11a) ?hi11a ?hs11a ?hf11a ?hr11a ?hQ11a ?hy11a ?hS11a ?h11a
              case hi11a => exact (by simp only [List.getElem?_toArray, List.getElem?_cons_succ, List.getElem?_cons_zero]; rfl)
              case hs11a => kernel_rfl
              case hf11a => kernel_rfl
              case hr11a => kernel_rfl
              case hQ11a => exact fun _ _ _ h => h
              case hy11a =>
                refine Or.inl ⟨rfl, ?_⟩
                intro W hSw
                go_simp
                try with_reducible rfl
              case hS11a => assumption
              try simp only [Act.put, List.setIfInBounds_toArray, List.set_cons_zero, List.set_cons_succ]
              refine wpAnyH_take (i := 12) (oi := ?oi12a) (v := undef) ?hi12a ?hs12a ?hf12a ?hr12a ?hQ12a ?hy12a ?hS12a ?h12a
              case hi12a => exact (by simp only [List.getElem?_toArray, List.getElem?_cons_succ, List.getElem?_cons_zero]; rfl)
              case hs12a => kernel_rfl
              case hf12a => kernel_rfl
              case hr12a => kernel_rfl
              case hQ12a => exact fun _ _ _ h => h
              case hy12a =>
                exact Or.inr ⟨rfl, rfl⟩
              case hS12a => assumption
              try simp only [Act.put, List.setIfInBounds_toArray, List.set_cons_zero, List.set_cons_succ]
              refine wpAnyH_take (i := 13) (oi := ?oi13a) (v := undef) ?hi13a ?hs13a ?hf13a ?hr13a ?hQ13a ?hy13a ?hS13a ?h13a
              case hi13a => exact (by simp only [List.getElem?_toArray, List.getElem?_cons_succ, List.getElem?_cons_zero]; rfl)
              case hs13a => kernel_rfl
              case hf13a => kernel_rfl
              case hr13a => kernel_rfl
              case hQ13a => exact fun _ _ _ h => h
              case hy13a =>
                exact Or.inr ⟨rfl, rfl⟩
              case hS13a => assumption
              try simp only [Act.put, List.setIfInBounds_toArray, List.set_cons_zero, List.set_cons_succ]
              refine wpAnyH_take (i := 14) (oi := ?oi14a) (v := undef) ?hi14a ?hs14a ?hf14a ?hr14a ?hQ14a ?hy14a ?hS14a ?h14a
              case hi14a => exact (by simp only [List.getElem?_toArray, List.getElem?_cons_succ, List.getElem?_cons_zero]; rfl)
              case hs14a => kernel_rfl
              case hf14a => kernel_rfl
              case hr14a => kernel_rfl
              case hQ14a => exact fun _ _ _ h => h
              case hy14a =>
                exact Or.inr ⟨rfl, rfl⟩
              case hS14a => assumption
              try simp only [Act.put, List.setIfInBounds_toArray, List.set_cons_zero, List.set_cons_succ]
              refine wpAnyH_take (i := 15) (oi := ?oi15a) (v := undef) ?hi15a ?hs15a ?hf15a ?hr15a ?hQ15a ?hy15a ?hS15a ?h15a
              case hi15a => exact (by simp only [List.getElem?_toArray, List.getElem?_cons_succ, List.getElem?_cons_zero]; rfl)
              case hs15a => kernel_rfl
              case hf15a => kernel_rfl
              case hr15a => kernel_rfl
              case hQ15a => exact fun _ _ _ h => h
              case hy15a =>
                exact Or.inr ⟨rfl, rfl⟩
              case hS15a => assumption
              try simp only [Act.put, List.setIfInBounds_toArray, List.set_cons_zero, List.set_cons_succ]
              refine wpAnyH_take (i := 16) (oi := ?oi16a) (v := undef) ?hi16a ?hs16a ?hf16a ?hr16a ?hQ16a ?hy16a ?hS16a ?h16a
              case hi16a => exact (by simp only [List.getElem?_toArray, List.getElem?_cons_succ, List.getElem?_cons_zero]; rfl)
              case hs16a => kernel_rfl
              case hf16a => kernel_rfl
              case hr16a => kernel_rfl
              case hQ16a => exact fun _ _ _ h => h
              case hy16a =>
                exact Or.inr ⟨rfl, rfl⟩
              case hS16a => assumption
              try simp only [Act.put, List.setIfInBounds_toArray, List.set_cons_zero, List.set_cons_succ]
              refine wpAnyH_take (i := 17) (oi := ?oi17a) (v := undef) ?hi17a ?hs17a ?hf17a ?hr17a ?hQ17a ?hy17a ?hS17a ?h17a
              case hi17a => exact (by simp only [List.getElem?_toArray, List.getElem?_cons_succ, List.getElem?_cons_zero]; rfl)
              case hs17a => kernel_rfl
              case hf17a => kernel_rfl
              case hr17a => kernel_rfl
              case hQ17a => exact fun _ _ _ h => h
              case hy17a =>
                exact Or.inr ⟨rfl, rfl⟩
              case hS17a => assumption
              try simp only [Act.put, List.setIfInBounds_toArray, List.set_cons_zero, List.set_cons_succ]
              refine wpAnyH_take (i := 18) (oi := ?oi18a) (v := undef) ?hi18a ?hs18a ?hf18a ?hr18a ?hQ18a ?hy18a ?hS18a ?h18a
              case hi18a => exact (by simp only [List.getElem?_toArray, List.getElem?_cons_succ, List.getElem?_cons_zero]; rfl)
              case hs18a => kernel_rfl
              case hf18a => kernel_rfl
              case hr18a => kernel_rfl
              case hQ18a => exact fun _ _ _ h => h
              case hy18a =>
                exact Or.inr ⟨rfl, rfl⟩
              case hS18a => assumption
              try simp only [Act.put, List.setIfInBounds_toArray, List.set_cons_zero, List.set_cons_succ]
              refine wpAnyH_take (i := 19) (oi := ?oi19a) (v := (.bool true)) ?hi19a ?hs19a ?hf19a ?hr19a ?hQ19a ?hy19a ?hS19a ?h19a
              case hi19a => exact (by simp only [List.getElem?_toArray, List.getElem?_cons_succ, List.getElem?_cons_zero]; rfl)
              case hs19a => kernel_rfl
              case hf19a => kernel_rfl
              case hr19a => kernel_rfl
              case hQ19a => exact fun _ _ _ h => h
              case hy19a =>
                refine Or.inl ⟨rfl, ?_⟩
                intro W hSw
                go_simp
                try with_reducible rfl
              case hS19a => assumption
              try simp only [Act.put, List.setIfInBounds_toArray, List.set_cons_zero, List.set_cons_succ]
              refine wpAnyH_take (i := 20) (oi := ?oi20a) (v := (.bool true)) ?hi20a ?hs20a ?hf20a ?hr20a ?hQ20a ?hy20a ?hS20a ?h20a
              case hi20a => exact (by simp only [List.getElem?_toArray, List.getElem?_cons_succ, List.getElem?_cons_zero]; rfl)
              case hs20a => kernel_rfl
              case hf20a => kernel_rfl
              case hr20a => kernel_rfl
              case hQ20a => exact fun _ _ _ h => h
              case hy20a =>
                refine Or.inl ⟨rfl, ?_⟩
                intro W hSw
                go_simp
                try with_reducible rfl
              case hS20a => assumption
              try simp only [Act.put, List.setIfInBounds_toArray, List.set_cons_zero, List.set_cons_succ]
              refine wpAnyH_done (by kernel_rfl) ?_ _
              go_wp2
              have HBZ := HBa1
              go_roundw
              case rel => exact ⟨_, 2, rfl, rfl, .inr (.inl ⟨rfl, rfl⟩), HBZ.out⟩
              case measure => simp [intOf] <;> omega
            · have hz := HB1'.out
              rw [if_neg h3] at hz
              subst hz
              have hwr : IntKind.i64.wrap (m.k - p) = m.k - p := by rw [IntKind.wrap_i64]; omega
              go_upto_region 7 with (fail)
              have HDb : Hid (Below w0.heap.size w0 wr.drew) := HB9.out.drew
              refine wp_region_held_drew (S := fun W : World => W.cell? ⟨w.heap.size, 0, none⟩ = some (.int .i64 m.k)) (by kernel_rfl) ((HCE.out _ (HDb.out)).1) (fun hHeld => ?_)
              obtain ⟨Wb0, hW0⟩ : ∃ W0, W0 = wr.drew := ⟨_, rfl⟩
              rw [← hW0] at hHeld HDb ⊢
              clear hW0
              refine wpAnyH_take (i := 0) (oi := ?oi0b) (v := ?v0b) ?hi0b ?hs0b ?hf0b ?hr0b ?hQ0b ?hy0b ?hS0b ?h0b
              case hi0b => exact (by simp only [List.getElem?_toArray, List.getElem?_cons_zero]; rfl)
              case hs0b => kernel_rfl
              case hf0b => kernel_rfl
              case hr0b => kernel_rfl
              case hQ0b => exact fun _ _ _ h => h
              case hy0b =>
                refine Or.inl ⟨rfl, ?_⟩
                intro W hSw
                go_simp
                try with_reducible rfl
              case hS0b => assumption
              try simp only [Act.put, List.setIfInBounds_toArray, List.set_cons_zero, List.set_cons_succ]
              refine wpAnyH_take (i := 1) (oi := ?oi1b) (v := ?v1b) ?hi1b ?hs1b ?hf1b ?hr1b ?hQ1b ?hy1b ?hS1b ?h1b
              case hi1b => exact (by simp only [List.getElem?_toArray, List.getElem?_cons_succ, List.getElem?_cons_zero]; rfl)
              case hs1b => kernel_rfl
              case hf1b => kernel_rfl
              case hr1b => kernel_rfl
              case hQ1b => exact fun _ _ _ h => h
              case hy1b =>
                refine Or.inl ⟨rfl, ?_⟩
                intro W hSw
                go_simp
                try with_reducible rfl
              case hS1b => assumption
              try simp only [Act.put, List.setIfInBounds_toArray, List.set_cons_zero, List.set_cons_succ]
              refine wpAnyH_take (i := 3) (oi := ?oi3b) (v := ?v3b) ?hi3b ?hs3b ?hf3b ?hr3b ?hQ3b ?hy3b ?hS3b ?h3b
              case hi3b => exact (by simp only [List.getElem?_toArray, List.getElem?_cons_succ, List.getElem?_cons_zero]; rfl)
              case hs3b => kernel_rfl
              case hf3b => kernel_rfl
              case hr3b => kernel_rfl
              case hQ3b => exact fun _ _ _ h => h
              case hy3b =>
                refine Or.inl ⟨rfl, ?_⟩
                intro W hSw
                go_simp
                try with_reducible rfl
              case hS3b => assumption
              try simp only [Act.put, List.setIfInBounds_toArray, List.set_cons_zero, List.set_cons_succ]
              refine wpAnyH_take (i := 4) (oi := ?oi4b) (v := ?v4b) ?hi4b ?hs4b ?hf4b ?hr4b ?hQ4b ?hy4b ?hS4b ?h4b
              case hi4b => exact (by simp only [List.getElem?_toArray, List.getElem?_cons_succ, List.getElem?_cons_zero]; rfl)
              case hs4b => kernel_rfl
              case hf4b => kernel_rfl
              case hr4b => kernel_rfl
              case hQ4b => exact fun _ _ _ h => h
              case hy4b =>
                refine Or.inl ⟨rfl, ?_⟩
                intro W hSw
                go_simp
                try with_reducible rfl
              case hS4b => assumption
              try simp only [Act.put, List.setIfInBounds_toArray, List.set_cons_zero, List.set_cons_succ]
              refine wpAnyH_take (i := 5) (oi := ?oi5b) (v := ?v5b) ?hi5b ?hs5b ?hf5b ?hr5b ?hQ5b ?hy5b ?hS5b ?h5b
              case hi5b => exact (by simp only [List.getElem?_toArray, List.getElem?_cons_succ, List.getElem?_cons_zero]; rfl)
              case hs5b => kernel_rfl
              case hf5b => kernel_rfl
              case hr5b => kernel_rfl
              case hQ5b => exact fun _ _ _ h => h
              case hy5b =>
                refine Or.inl ⟨rfl, ?_⟩
                intro W hSw
                go_simp
                try with_reducible rfl
              case hS5b => assumption
              try simp only [Act.put, List.setIfInBounds_toArray, List.set_cons_zero, List.set_cons_succ]
              refine wpAnyH_take (i := 6) (oi := ?oi6b) (v := ?v6b) ?hi6b ?hs6b ?hf6b ?hr6b ?hQ6b ?hy6b ?hS6b ?h6b
              case hi6b => exact (by simp only [List.getElem?_toArray, List.getElem?_cons_succ, List.getElem?_cons_zero]; rfl)
              case hs6b => kernel_rfl
              case hf6b => kernel_rfl
              case hr6b => kernel_rfl
              case hQ6b => exact fun _ _ _ h => h
              case hy6b =>
                refine Or.inl ⟨rfl, ?_⟩
                intro W hSw
                go_simp
                try with_reducible rfl
              case hS6b => assumption
              try simp only [Act.put, List.setIfInBounds_toArray, List.set_cons_zero, List.set_cons_succ]
              refine wpAnyH_ready (rs := [2]) (by kernel_rfl) (by simp) ?_
              refine AllReadyH.cons (o := _) rfl (fun K hK => ?_) AllReadyH.nil
              go_simp
              refine (HRT.out Wb0 _ HDb.out).mono ?_
              rintro r Wb1 ⟨rfl, hbq⟩
              have HBb1 := Lib.hid (HDb.out.trans (hbq.mono HDb.out.size))
              clear hbq
              refine hK.out _ _ ((HCE.out _ (HBb1.out)).1) (fun hHeld => ?_)
              clear hK K
              try simp only [Act.put, List.setIfInBounds_toArray, List.set_cons_zero, List.set_cons_succ]
              refine wpAnyH_take (i := 7) (oi := ?oi7b) (v := (.bool false)) ?hi7b ?hs7b ?hf7b ?hr7b ?hQ7b ?hy7b ?hS7b ?h7b
              case hi7b => exact (by simp only [List.getElem?_toArray, List.getElem?_cons_succ, List.getElem?_cons_zero]; rfl)
              case hs7b => kernel_rfl
              case hf7b => kernel_rfl
              case hr7b => kernel_rfl
              case hQ7b => exact fun _ _ _ h => h
              case hy7b =>
                refine Or.inl ⟨rfl, ?_⟩
                intro W hSw
                go_simp
                try simp [hwr, h3]
              case hS7b => assumption
              try simp only [Act.put, List.setIfInBounds_toArray, List.set_cons_zero, List.set_cons_succ]
              refine wpAnyH_take (i := 8) (oi := ?oi8b) (v := ?v8b) ?hi8b ?hs8b ?hf8b ?hr8b ?hQ8b ?hy8b ?hS8b ?h8b
              case hi8b => exact (by simp only [List.getElem?_toArray, List.getElem?_cons_succ, List.getElem?_cons_zero]; rfl)
              case hs8b => kernel_rfl
              case hf8b => kernel_rfl
              case hr8b => kernel_rfl
              case hQ8b => exact fun _ _ _ h => h
              case hy8b =>
                refine Or.inl ⟨rfl, ?_⟩
                intro W hSw
                go_simp
                try with_reducible rfl
              case hS8b => assumption
              try simp only [Act.put, List.setIfInBounds_toArray, List.set_cons_zero, List.set_cons_succ]
              refine wpAnyH_take (i := 9) (oi := ?oi9b) (v := undef) ?hi9b ?hs9b ?hf9b ?hr9b ?hQ9b ?hy9b ?hS9b ?h9b
              case hi9b => exact (by simp only [List.getElem?_toArray, List.getElem?_cons_succ, List.getElem?_cons_zero]; rfl)
              case hs9b => kernel_rfl
              case hf9b => kernel_rfl
              case hr9b => kernel_rfl
              case hQ9b => exact fun _ _ _ h => h
              case hy9b =>
                exact Or.inr ⟨rfl, rfl⟩
              case hS9b => assumption
              try simp only [Act.put, List.setIfInBounds_toArray, List.set_cons_zero, List.set_cons_succ]
              refine wpAnyH_take (i := 10) (oi := ?oi10b) (v := undef) ?hi10b ?hs10b ?hf10b ?hr10b ?hQ10b ?hy10b ?hS10b ?h10b
              case hi10b => exact (by simp only [List.getElem?_toArray, List.getElem?_cons_succ, List.getElem?_cons_zero]; rfl)
              case hs10b => kernel_rfl
              case hf10b => kernel_rfl
              case hr10b => kernel_rfl
              case hQ10b => exact fun _ _ _ h => h
              case hy10b =>
                exact Or.inr ⟨rfl, rfl⟩
              case hS10b => assumption
              try simp only [Act.put, List.setIfInBounds_toArray, List.set_cons_zero, List.set_cons_succ]
              refine wpAnyH_take (i := 11) (oi := ?oi11b) (v := undef) ?hi11b ?hs11b ?hf11b ?hr11b ?hQ11b ?hy11b ?hS11b ?h11b
              case hi11b => exact (by simp only [List.getElem?_toArray, List.getElem?_cons_succ, List.getElem?_cons_zero]; rfl)
              case hs11b => kernel_rfl
              case hf11b => kernel_rfl
              case hr11b => kernel_rfl
              case hQ11b => exact fun _ _ _ h => h
              case hy11b =>
                exact Or.inr ⟨rfl, rfl⟩
              case hS11b => assumption
              try simp only [Act.put, List.setIfInBounds_toArray, List.set_cons_zero, List.set_cons_succ]
              refine wpAnyH_take (i := 12) (oi := ?oi12b) (v := undef) ?hi12b ?hs12b ?hf12b ?hr12b ?hQ12b ?hy12b ?hS12b ?h12b
              case hi12b => exact (by simp only [List.getElem?_toArray, List.getElem?_cons_succ, List.getElem?_cons_zero]; rfl)
              case hs12b => kernel_rfl
              case hf12b => kernel_rfl
              case hr12b => kernel_rfl
              case hQ12b => exact fun _ _ _ h => h
              case hy12b =>
                exact Or.inr ⟨rfl, rfl⟩
              case hS12b => assumption
              try simp only [Act.put, List.setIfInBounds_toArray, List.set_cons_zero, List.set_cons_succ]
              refine wpAnyH_take (i := 13) (oi := ?oi13b) (v := undef) ?hi13b ?hs13b ?hf13b ?hr13b ?hQ13b ?hy13b ?hS13b ?h13b
              case hi13b => exact (by simp only [List.getElem?_toArray, List.getElem?_cons_succ, List.getElem?_cons_zero]; rfl)
              case hs13b => kernel_rfl
              case hf13b => kernel_rfl
              case hr13b => kernel_rfl
              case hQ13b => exact fun _ _ _ h => h
              case hy13b =>
                exact Or.inr ⟨rfl, rfl⟩
              case hS13b => assumption
              try simp only [Act.put, List.setIfInBounds_toArray, List.set_cons_zero, List.set_cons_succ]
              refine wpAnyH_take (i := 14) (oi := ?oi14b) (v := undef) ?hi14b ?hs14b ?hf14b ?hr14b ?hQ14b ?hy14b ?hS14b ?h14b
              case hi14b => exact (by simp only [List.getElem?_toArray, List.getElem?_cons_succ, List.getElem?_cons_zero]; rfl)
              case hs14b => kernel_rfl
              case hf14b => kernel_rfl
              case hr14b => kernel_rfl
              case hQ14b => exact fun _ _ _ h => h
              case hy14b =>
                exact Or.inr ⟨rfl, rfl⟩
              case hS14b => assumption
              try simp only [Act.put, List.setIfInBounds_toArray, List.set_cons_zero, List.set_cons_succ]
              refine wpAnyH_take (i := 15) (oi := ?oi15b) (v := undef) ?hi15b ?hs15b ?hf15b ?hr15b ?hQ15b ?hy15b ?hS15b ?h15b
              case hi15b => exact (by simp only [List.getElem?_toArray, List.getElem?_cons_succ, List.getElem?_cons_zero]; rfl)
              case hs15b => kernel_rfl
              case hf15b => kernel_rfl
              case hr15b => kernel_rfl
              case hQ15b => exact fun _ _ _ h => h
              case hy15b =>
                exact Or.inr ⟨rfl, rfl⟩
              case hS15b => assumption
              try simp only [Act.put, List.setIfInBounds_toArray, List.set_cons_zero, List.set_cons_succ]
              refine wpAnyH_take (i := 16) (oi := ?oi16b) (v := undef) ?hi16b ?hs16b ?hf16b ?hr16b ?hQ16b ?hy16b ?hS16b ?h16b
              case hi16b => exact (by simp only [List.getElem?_toArray, List.getElem?_cons_succ, List.getElem?_cons_zero]; rfl)
              case hs16b => kernel_rfl
              case hf16b => kernel_rfl
              case hr16b => kernel_rfl
              case hQ16b => exact fun _ _ _ h => h
              case hy16b =>
                exact Or.inr ⟨rfl, rfl⟩
              case hS16b => assumption
              try simp only [Act.put, List.setIfInBounds_toArray, List.set_cons_zero, List.set_cons_succ]
              refine wpAnyH_take (i := 17) (oi := ?oi17b) (v := undef) ?hi17b ?hs17b ?hf17b ?hr17b ?hQ17b ?hy17b ?hS17b ?h17b
              case hi17b => exact (by simp only [List.getElem?_toArray, List.getElem?_cons_succ, List.getElem?_cons_zero]; rfl)
              case hs17b => kernel_rfl
              case hf17b => kernel_rfl
              case hr17b => kernel_rfl
              case hQ17b => exact fun _ _ _ h => h
              case hy17b =>
                exact Or.inr ⟨rfl, rfl⟩
              case hS17b => assumption
              try simp only [Act.put, List.setIfInBounds_toArray, List.set_cons_zero, List.set_cons_succ]
              refine wpAnyH_take (i := 18) (oi := ?oi18b) (v := undef) ?hi18b ?hs18b ?hf18b ?hr18b ?hQ18b ?hy18b ?hS18b ?h18b
              case hi18b => exact (by simp only [List.getElem?_toArray, List.getElem?_cons_succ, List.getElem?_cons_zero]; rfl)
              case hs18b => kernel_rfl
              case hf18b => kernel_rfl
              case hr18b => kernel_rfl
              case hQ18b => exact fun _ _ _ h => h
              case hy18b =>
                exact Or.inr ⟨rfl, rfl⟩
              case hS18b => assumption
              try simp only [Act.put, List.setIfInBounds_toArray, List.set_cons_zero, List.set_cons_succ]
              refine wpAnyH_take (i := 19) (oi := ?oi19b) (v := undef) ?hi19b ?hs19b ?hf19b ?hr19b ?hQ19b ?hy19b ?hS19b ?h19b
              case hi19b => exact (by simp only [List.getElem?_toArray, List.getElem?_cons_succ, List.getElem?_cons_zero]; rfl)
              case hs19b => kernel_rfl
              case hf19b => kernel_rfl
              case hr19b => kernel_rfl
              case hQ19b => exact fun _ _ _ h => h
              case hy19b =>
                exact Or.inr ⟨rfl, rfl⟩
              case hS19b => assumption
              try simp only [Act.put, List.setIfInBounds_toArray, List.set_cons_zero, List.set_cons_succ]
              refine wpAnyH_take (i := 20) (oi := ?oi20b) (v := (.bool false)) ?hi20b ?hs20b ?hf20b ?hr20b ?hQ20b ?hy20b ?hS20b ?h20b
              case hi20b => exact (by simp only [List.getElem?_toArray, List.getElem?_cons_succ, List.getElem?_cons_zero]; rfl)
              case hs20b => kernel_rfl
              case hf20b => kernel_rfl
              case hr20b => kernel_rfl
              case hQ20b => exact fun _ _ _ h => h
              case hy20b =>
                refine Or.inl ⟨rfl, ?_⟩
                intro W hSw
                go_simp
                try with_reducible rfl
              case hS20b => assumption
              try simp only [Act.put, List.setIfInBounds_toArray, List.set_cons_zero, List.set_cons_succ]
              refine wpAnyH_done (by kernel_rfl) ?_ _
              go_wp2
              have HBZ := HBb1
              go_roundw
              case rel => exact ⟨_, 2, rfl, rfl, .inr (.inl ⟨rfl, rfl⟩), HBZ.out⟩
              case measure => simp [intOf] <;> omega
          · by_cases h3 : takP 1 l ≤ m.k - p
            · have hz := HB1'.out
              rw [if_pos h3] at hz
              subst hz
              by_cases h4 : takP 2 l ≤ m.k - p
              · by_cases h5 : takP 2 l < takP 1 l
                · obtain rfl : res = 2 := by rw [HRES.out, if_pos h5, if_pos (by omega)]
                  have hwr : IntKind.i64.wrap (m.k - p) = m.k - p := by rw [IntKind.wrap_i64]; omega
                  go_upto_region 7 with (fail)
                  have HDc : Hid (Below w0.heap.size w0 wr.drew) := HB9.out.drew
                  refine wp_region_held_drew (S := fun W : World => W.cell? ⟨w.heap.size, 0, none⟩ = some (.int .i64 m.k)) (by kernel_rfl) ((HCE.out _ (HDc.out)).1) (fun hHeld => ?_)
                  obtain ⟨Wc0, hW0⟩ : ∃ W0, W0 = wr.drew := ⟨_, rfl⟩
                  rw [← hW0] at hHeld HDc ⊢
                  clear hW0
                  refine wpAnyH_take (i := 0) (oi := ?oi0c) (v := ?v0c) ?hi0c ?hs0c ?hf0c ?hr0c ?hQ0c ?hy0c ?hS0c ?h0c
                  case hi0c => exact (by simp only [List.getElem?_toArray, List.getElem?_cons_zero]; rfl)
                  case hs0c => kernel_rfl
                  case hf0c => kernel_rfl
                  case hr0c => kernel_rfl
                  case hQ0c => exact fun _ _ _ h => h
                  case hy0c =>
                    refine Or.inl ⟨rfl, ?_⟩
                    intro W hSw
                    go_simp
                    try with_reducible rfl
                  case hS0c => assumption
                  try simp only [Act.put, List.setIfInBounds_toArray, List.set_cons_zero, List.set_cons_succ]
                  refine wpAnyH_take (i := 1) (oi := ?oi1c) (v := ?v1c) ?hi1c ?hs1c ?hf1c ?hr1c ?hQ1c ?hy1c ?hS1c ?h1c
                  case hi1c => exact (by simp only [List.getElem?_toArray, List.getElem?_cons_succ, List.getElem?_cons_zero]; rfl)
                  case hs1c => kernel_rfl
                  case hf1c => kernel_rfl
                  case hr1c => kernel_rfl
                  case hQ1c => exact fun _ _ _ h => h
                  case hy1c =>
                    refine Or.inl ⟨rfl, ?_⟩
                    intro W hSw
                    go_simp
                    try with_reducible rfl
                  case hS1c => assumption
                  try simp only [Act.put, List.setIfInBounds_toArray, List.set_cons_zero, List.set_cons_succ]
                  refine wpAnyH_take (i := 3) (oi := ?oi3c) (v := ?v3c) ?hi3c ?hs3c ?hf3c ?hr3c ?hQ3c ?hy3c ?hS3c ?h3c
                  case hi3c => exact (by simp only [List.getElem?_toArray, List.getElem?_cons_succ, List.getElem?_cons_zero]; rfl)
                  case hs3c => kernel_rfl
                  case hf3c => kernel_rfl
                  case hr3c => kernel_rfl
                  case hQ3c => exact fun _ _ _ h => h
                  case hy3c =>
                    refine Or.inl ⟨rfl, ?_⟩
                    intro W hSw
                    go_simp
                    try with_reducible rfl
                  case hS3c => assumption
                  try simp only [Act.put, List.setIfInBounds_toArray, List.set_cons_zero, List.set_cons_succ]
                  refine wpAnyH_take (i := 4) (oi := ?oi4c) (v := ?v4c) ?hi4c ?hs4c ?hf4c ?hr4c ?hQ4c ?hy4c ?hS4c ?h4c
                  case hi4c => exact (by simp only [List.getElem?_toArray, List.getElem?_cons_succ, List.getElem?_cons_zero]; rfl)
                  case hs4c => kernel_rfl
                  case hf4c => kernel_rfl
                  case hr4c => kernel_rfl
                  case hQ4c => exact fun _ _ _ h => h
                  case hy4c =>
                    refine Or.inl ⟨rfl, ?_⟩
                    intro W hSw
                    go_simp
                    try with_reducible rfl
                  case hS4c => assumption
                  try simp only [Act.put, List.setIfInBounds_toArray, List.set_cons_zero, List.set_cons_succ]
                  refine wpAnyH_take (i := 5) (oi := ?oi5c) (v := ?v5c) ?hi5c ?hs5c ?hf5c ?hr5c ?hQ5c ?hy5c ?hS5c ?h5c
                  case hi5c => exact (by simp only [List.getElem?_toArray, List.getElem?_cons_succ, List.getElem?_cons_zero]; rfl)
                  case hs5c => kernel_rfl
                  case hf5c => kernel_rfl
                  case hr5c => kernel_rfl
                  case hQ5c => exact fun _ _ _ h => h
                  case hy5c =>
                    refine Or.inl ⟨rfl, ?_⟩
                    intro W hSw
                    go_simp
                    try with_reducible rfl
                  case hS5c => assumption
                  try simp only [Act.put, List.setIfInBounds_toArray, List.set_cons_zero, List.set_cons_succ]
                  refine wpAnyH_take (i := 6) (oi := ?oi6c) (v := ?v6c) ?hi6c ?hs6c ?hf6c ?hr6c ?hQ6c ?hy6c ?hS6c ?h6c
                  case hi6c => exact (by simp only [List.getElem?_toArray, List.getElem?_cons_succ, List.getElem?_cons_zero]; rfl)
                  case hs6c => kernel_rfl
                  case hf6c => kernel_rfl
                  case hr6c => kernel_rfl
                  case hQ6c => exact fun _ _ _ h => h
                  case hy6c =>
                    refine Or.inl ⟨rfl, ?_⟩
                    intro W hSw
                    go_simp
                    try with_reducible rfl
                  case hS6c => assumption
                  try simp only [Act.put, List.setIfInBounds_toArray, List.set_cons_zero, List.set_cons_succ]
                  refine wpAnyH_ready (rs := [2]) (by kernel_rfl) (by simp) ?_
                  refine AllReadyH.cons (o := _) rfl (fun K hK => ?_) AllReadyH.nil
                  go_simp
                  refine (HRT.out Wc0 _ HDc.out).mono ?_
                  rintro r Wc1 ⟨rfl, hbq⟩
                  have HBc1 := Lib.hid (HDc.out.trans (hbq.mono HDc.out.size))
                  clear hbq
                  refine hK.out _ _ ((HCE.out _ (HBc1.out)).1) (fun hHeld => ?_)
                  clear hK K
                  try simp only [Act.put, List.setIfInBounds_toArray, List.set_cons_zero, List.set_cons_succ]
                  refine wpAnyH_take (i := 7) (oi := ?oi7c) (v := (.bool true)) ?hi7c ?hs7c ?hf7c ?hr7c ?hQ7c ?hy7c ?hS7c ?h7c
                  case hi7c => exact (by simp only [List.getElem?_toArray, List.getElem?_cons_succ, List.getElem?_cons_zero]; rfl)
                  case hs7c => kernel_rfl
                  case hf7c => kernel_rfl
                  case hr7c => kernel_rfl
                  case hQ7c => exact fun _ _ _ h => h
                  case hy7c =>
                    refine Or.inl ⟨rfl, ?_⟩
                    intro W hSw
                    go_simp
                    try simp [hwr, h4]
                  case hS7c => assumption
                  try simp only [Act.put, List.setIfInBounds_toArray, List.set_cons_zero, List.set_cons_succ]
                  refine wpAnyH_take (i := 8) (oi := ?oi8c) (v := ?v8c) ?hi8c ?hs8c ?hf8c ?hr8c ?hQ8c ?hy8c ?hS8c ?h8c
                  case hi8c => exact (by simp only [List.getElem?_toArray, List.getElem?_cons_succ, List.getElem?_cons_zero]; rfl)
                  case hs8c => kernel_rfl
                  case hf8c => kernel_rfl
                  case hr8c => kernel_rfl
                  case hQ8c => exact fun _ _ _ h => h
                  case hy8c =>
                    refine Or.inl ⟨rfl, ?_⟩
                    intro W hSw
                    go_simp
                    try with_reducible rfl
                  case hS8c => assumption
                  try simp only [Act.put, List.setIfInBounds_toArray, List.set_cons_zero, List.set_cons_succ]
                  refine wpAnyH_take (i := 9) (oi := ?oi9c) (v := ?v9c) ?hi9c ?hs9c ?hf9c ?hr9c ?hQ9c ?hy9c ?hS9c ?h9c
                  case hi9c => exact (by simp only [List.getElem?_toArray, List.getElem?_cons_succ, List.getElem?_cons_zero]; rfl)
                  case hs9c => kernel_rfl
                  case hf9c => kernel_rfl
                  case hr9c => kernel_rfl
                  case hQ9c => exact fun _ _ _ h => h
                  case hy9c =>
                    refine Or.inl ⟨rfl, ?_⟩
                    intro W hSw
                    go_simp
                    try with_reducible rfl
                  case hS9c => assumption
                  try simp only [Act.put, List.setIfInBounds_toArray, List.set_cons_zero, List.set_cons_succ]
                  refine wpAnyH_take (i := 10) (oi := ?oi10c) (v := ?v10c) ?hi10c ?hs10c ?hf10c ?hr10c ?hQ10c ?hy10c ?hS10c ?h10c
                  case hi10c => exact (by simp only [List.getElem?_toArray, List.getElem?_cons_succ, List.getElem?_cons_zero]; rfl)
                  case hs10c => kernel_rfl
                  case hf10c => kernel_rfl
                  case hr10c => kernel_rfl
                  case hQ10c => exact fun _ _ _ h => h
                  case hy10c =>
                    refine Or.inl ⟨rfl, ?_⟩
                    intro W hSw
                    go_simp
                    try with_reducible rfl
                  case hS10c => assumption
                  try simp only [Act.put, List.setIfInBounds_toArray, List.set_cons_zero, List.set_cons_succ]
                  refine wpAnyH_take (i := 11) (oi := ?oi11c) (v := ?v11c) ?hi11c ?hs11c ?hf11c ?hr11c ?hQ11c ?hy11c ?hS11c ?h11c
                  case hi11c => exact (by simp only [List.getElem?_toArray, List.getElem?_cons_succ, List.getElem?_cons_zero]; rfl)
                  case hs11c => kernel_rfl
                  case hf11c => kernel_rfl
                  case hr11c => kernel_rfl
                  case hQ11c => exact fun _ _ _ h => h
                  case hy11c =>
                    refine Or.inl ⟨rfl, ?_⟩
                    intro W hSw
                    go_simp
                    try with_reducible rfl
                  case hS11c => assumption
                  try simp only [Act.put, List.setIfInBounds_toArray, List.set_cons_zero, List.set_cons_succ]
                  refine wpAnyH_take (i := 12) (oi := ?oi12c) (v := ?v12c) ?hi12c ?hs12c ?hf12c ?hr12c ?hQ12c ?hy12c ?hS12c ?h12c
                  case hi12c => exact (by simp only [List.getElem?_toArray, List.getElem?_cons_succ, List.getElem?_cons_zero]; rfl)
                  case hs12c => kernel_rfl
                  case hf12c => kernel_rfl
                  case hr12c => kernel_rfl
                  case hQ12c => exact fun _ _ _ h => h
                  case hy12c =>
                    refine Or.inl ⟨rfl, ?_⟩
                    intro W hSw
                    go_simp
                    try with_reducible rfl
                  case hS12c => assumption
                  try simp only [Act.put, List.setIfInBounds_toArray, List.set_cons_zero, List.set_cons_succ]
                  refine wpAnyH_take (i := 13) (oi := ?oi13c) (v := ?v13c) ?hi13c ?hs13c ?hf13c ?hr13c ?hQ13c ?hy13c ?hS13c ?h13c
                  case hi13c => exact (by simp only [List.getElem?_toArray, List.getElem?_cons_succ, List.getElem?_cons_zero]; rfl)
                  case hs13c => kernel_rfl
                  case hf13c => kernel_rfl
                  case hr13c => kernel_rfl
                  case hQ13c => exact fun _ _ _ h => h
                  case hy13c =>
                    refine Or.inl ⟨rfl, ?_⟩
                    intro W hSw
                    go_simp
                    try with_reducible rfl
                  case hS13c => assumption
                  try simp only [Act.put, List.setIfInBounds_toArray, List.set_cons_zero, List.set_cons_succ]
                  refine wpAnyH_take (i := 15) (oi := ?oi15c) (v := ?v15c) ?hi15c ?hs15c ?hf15c ?hr15c ?hQ15c ?hy15c ?hS15c ?h15c
                  case hi15c => exact (by simp only [List.getElem?_toArray, List.getElem?_cons_succ, List.getElem?_cons_zero]; rfl)
                  case hs15c => kernel_rfl
                  case hf15c => kernel_rfl
                  case hr15c => kernel_rfl
                  case hQ15c => exact fun _ _ _ h => h
                  case hy15c =>
                    refine Or.inl ⟨rfl, ?_⟩
                    intro W hSw
                    go_simp
                    try with_reducible rfl
                  case hS15c => assumption
                  try simp only [Act.put, List.setIfInBounds_toArray, List.set_cons_zero, List.set_cons_succ]
                  refine wpAnyH_take (i := 16) (oi := ?oi16c) (v := ?v16c) ?hi16c ?hs16c ?hf16c ?hr16c ?hQ16c ?hy16c ?hS16c ?h16c
                  case hi16c => exact (by simp only [List.getElem?_toArray, List.getElem?_cons_succ, List.getElem?_cons_zero]; rfl)
                  case hs16c => kernel_rfl
                  case hf16c => kernel_rfl
                  case hr16c => kernel_rfl
                  case hQ16c => exact fun _ _ _ h => h
                  case hy16c =>
                    refine Or.inl ⟨rfl, ?_⟩
                    intro W hSw
                    go_simp
                    try with_reducible rfl
                  case hS16c => assumption
                  try simp only [Act.put, List.setIfInBounds_toArray, List.set_cons_zero, List.set_cons_succ]
                  refine wpAnyH_ready (rs := [14]) (by kernel_rfl) (by simp) ?_
                  refine AllReadyH.cons (o := _) rfl (fun K hK => ?_) AllReadyH.nil
                  go_simp
                  refine (HRT.out Wc1 _ HBc1.out).mono ?_
                  rintro r Wc2 ⟨rfl, hbq⟩
                  have HBc2 := Lib.hid (HBc1.out.trans (hbq.mono HBc1.out.size))
                  clear hbq
                  refine hK.out _ _ ((HCE.out _ (HBc2.out)).1) (fun hHeld => ?_)
                  clear hK K
                  try simp only [Act.put, List.setIfInBounds_toArray, List.set_cons_zero, List.set_cons_succ]
                  refine wpAnyH_ready (rs := [17]) (by kernel_rfl) (by simp) ?_
                  refine AllReadyH.cons (o := _) rfl (fun K hK => ?_) AllReadyH.nil
                  go_simp
                  refine (HRT.out Wc2 _ HBc2.out).mono ?_
                  rintro r Wc3 ⟨rfl, hbq⟩
                  have HBc3 := Lib.hid (HBc2.out.trans (hbq.mono HBc2.out.size))
                  clear hbq
                  refine hK.out _ _ ((HCE.out _ (HBc3.out)).1) (fun hHeld => ?_)
                  clear hK K
                  try simp only [Act.put, List.setIfInBounds_toArray, List.set_cons_zero, List.set_cons_succ]
                  refine wpAnyH_take (i := 18) (oi := ?oi18c) (v := (.bool true)) ?hi18c ?hs18c ?hf18c ?hr18c ?hQ18c ?hy18c ?hS18c ?h18c
                  case hi18c => exact (by simp only [List.getElem?_toArray, List.getElem?_cons_succ, List.getElem?_cons_zero]; rfl)
                  case hs18c => kernel_rfl
                  case hf18c => kernel_rfl
                  case hr18c => kernel_rfl
                  case hQ18c => exact fun _ _ _ h => h
                  case hy18c =>
                    refine Or.inl ⟨rfl, ?_⟩
                    intro W hSw
                    go_simp
                    try simp [h5]
                  case hS18c => assumption
                  try simp only [Act.put, List.setIfInBounds_toArray, List.set_cons_zero, List.set_cons_succ]
                  refine wpAnyH_take (i := 19) (oi := ?oi19c) (v := (.bool true)) ?hi19c ?hs19c ?hf19c ?hr19c ?hQ19c ?hy19c ?hS19c ?h19c
                  case hi19c => exact (by simp only [List.getElem?_toArray, List.getElem?_cons_succ, List.getElem?_cons_zero]; rfl)
                  case hs19c => kernel_rfl
                  case hf19c => kernel_rfl
                  case hr19c => kernel_rfl
                  case hQ19c => exact fun _ _ _ h => h
                  case hy19c =>
                    refine Or.inl ⟨rfl, ?_⟩
                    intro W hSw
                    go_simp
                    try with_reducible rfl
                  case hS19c => assumption
                  try simp only [Act.put, List.setIfInBounds_toArray, List.set_cons_zero, List.set_cons_succ]
                  refine wpAnyH_take (i := 20) (oi := ?oi20c) (v := (.bool true)) ?hi20c ?hs20c ?hf20c ?hr20c ?hQ20c ?hy20c ?hS20c ?h20c
                  case hi20c => exact (by simp only [List.getElem?_toArray, List.getElem?_cons_succ, List.getElem?_cons_zero]; rfl)
                  case hs20c => kernel_rfl
                  case hf20c => kernel_rfl
                  case hr20c => kernel_rfl
                  case hQ20c => exact fun _ _ _ h => h
                  case hy20c =>
                    refine Or.inl ⟨rfl, ?_⟩
                    intro W hSw
                    go_simp
                    try with_reducible rfl
                  case hS20c => assumption
                  try simp only [Act.put, List.setIfInBounds_toArray, List.set_cons_zero, List.set_cons_succ]
                  refine wpAnyH_done (by kernel_rfl) ?_ _
                  go_wp2
                  have HBZ := HBc3
                  go_roundw
                  case rel => exact ⟨_, 3, rfl, rfl, .inr (.inr ⟨rfl, rfl⟩), HBZ.out⟩
                  case measure => simp [intOf] <;> omega
                · obtain rfl : res = 1 := by rw [HRES.out, if_neg h5, if_pos (by omega)]
                  have hwr : IntKind.i64.wrap (m.k - p) = m.k - p := by rw [IntKind.wrap_i64]; omega
                  go_upto_region 7 with (fail)
                  have HDd : Hid (Below w0.heap.size w0 wr.drew) := HB9.out.drew
                  refine wp_region_held_drew (S := fun W : World => W.cell? ⟨w.heap.size, 0, none⟩ = some (.int .i64 m.k)) (by kernel_rfl) ((HCE.out _ (HDd.out)).1) (fun hHeld => ?_)
                  obtain ⟨Wd0, hW0⟩ : ∃ W0, W0 = wr.drew := ⟨_, rfl⟩
                  rw [← hW0] at hHeld HDd ⊢
                  clear hW0
                  refine wpAnyH_take (i := 0) (oi := ?oi0d) (v := ?v0d) ?hi0d ?hs0d ?hf0d ?hr0d ?hQ0d ?hy0d ?hS0d ?h0d
                  case hi0d => exact (by simp only [List.getElem?_toArray, List.getElem?_cons_zero]; rfl)
                  case hs0d => kernel_rfl
                  case hf0d => kernel_rfl
                  case hr0d => kernel_rfl
                  case hQ0d => exact fun _ _ _ h => h
                  case hy0d =>
                    refine Or.inl ⟨rfl, ?_⟩
                    intro W hSw
                    go_simp
                    try with_reducible rfl
                  case hS0d => assumption
                  try simp only [Act.put, List.setIfInBounds_toArray, List.set_cons_zero, List.set_cons_succ]
                  refine wpAnyH_take (i := 1) (oi := ?oi1d) (v := ?v1d) ?hi1d ?hs1d ?hf1d ?hr1d ?hQ1d ?hy1d ?hS1d ?h1d
                  case hi1d => exact (by simp only [List.getElem?_toArray, List.getElem?_cons_succ, List.getElem?_cons_zero]; rfl)
                  case hs1d => kernel_rfl
                  case hf1d => kernel_rfl
                  case hr1d => kernel_rfl
                  case hQ1d => exact fun _ _ _ h => h
                  case hy1d =>
                    refine Or.inl ⟨rfl, ?_⟩
                    intro W hSw
                    go_simp
                    try with_reducible rfl
                  case hS1d => assumption
                  try simp only [Act.put, List.setIfInBounds_toArray, List.set_cons_zero, List.set_cons_succ]
                  refine wpAnyH_take (i := 3) (oi := ?oi3d) (v := ?v3d) ?hi3d ?hs3d ?hf3d ?hr3d ?hQ3d ?hy3d ?hS3d ?h3d
                  case hi3d => exact (by simp only [List.getElem?_toArray, List.getElem?_cons_succ, List.getElem?_cons_zero]; rfl)
                  case hs3d => kernel_rfl
                  case hf3d => kernel_rfl
                  case hr3d => kernel_rfl
                  case hQ3d => exact fun _ _ _ h => h
                  case hy3d =>
                    refine Or.inl ⟨rfl, ?_⟩
                    intro W hSw
                    go_simp
                    try with_reducible rfl
                  case hS3d => assumption
                  try simp only [Act.put, List.setIfInBounds_toArray, List.set_cons_zero, List.set_cons_succ]
                  refine wpAnyH_take (i := 4) (oi := ?oi4d) (v := ?v4d) ?hi4d ?hs4d ?hf4d ?hr4d ?hQ4d ?hy4d ?hS4d ?h4d
                  case hi4d => exact (by simp only [List.getElem?_toArray, List.getElem?_cons_succ, List.getElem?_cons_zero]; rfl)
                  case hs4d => kernel_rfl
                  case hf4d => kernel_rfl
                  case hr4d => kernel_rfl
                  case hQ4d => exact fun _ _ _ h => h
                  case hy4d =>
                    refine Or.inl ⟨rfl, ?_⟩
                    intro W hSw
                    go_simp
                    try with_reducible rfl
                  case hS4d => assumption
                  try simp only [Act.put, List.setIfInBounds_toArray, List.set_cons_zero, List.set_cons_succ]
                  refine wpAnyH_take (i := 5) (oi := ?oi5d) (v := ?v5d) ?hi5d ?hs5d ?hf5d ?hr5d ?hQ5d ?hy5d ?hS5d ?h5d
                  case hi5d => exact (by simp only [List.getElem?_toArray, List.getElem?_cons_succ, List.getElem?_cons_zero]; rfl)
                  case hs5d => kernel_rfl
                  case hf5d => kernel_rfl
                  case hr5d => kernel_rfl
                  case hQ5d => exact fun _ _ _ h => h
                  case hy5d =>
                    refine Or.inl ⟨rfl, ?_⟩
                    intro W hSw
                    go_simp
                    try with_reducible rfl
                  case hS5d => assumption
                  try simp only [Act.put, List.setIfInBounds_toArray, List.set_cons_zero, List.set_cons_succ]
                  refine wpAnyH_take (i := 6) (oi := ?oi6d) (v := ?v6d) ?hi6d ?hs6d ?hf6d ?hr6d ?hQ6d ?hy6d ?hS6d ?h6d
                  case hi6d => exact (by simp only [List.getElem?_toArray, List.getElem?_cons_succ, List.getElem?_cons_zero]; rfl)
                  case hs6d => kernel_rfl
                  case hf6d => kernel_rfl
                  case hr6d => kernel_rfl
                  case hQ6d => exact fun _ _ _ h => h
                  case hy6d =>
                    refine Or.inl ⟨rfl, ?_⟩
                    intro W hSw
                    go_simp
                    try with_reducible rfl
                  case hS6d => assumption
                  try simp only [Act.put, List.setIfInBounds_toArray, List.set_cons_zero, List.set_cons_succ]
                  refine wpAnyH_ready (rs := [2]) (by kernel_rfl) (by simp) ?_
                  refine AllReadyH.cons (o := _) rfl (fun K hK => ?_) AllReadyH.nil
                  go_simp
                  refine (HRT.out Wd0 _ HDd.out).mono ?_
                  rintro r Wd1 ⟨rfl, hbq⟩
                  have HBd1 := Lib.hid (HDd.out.trans (hbq.mono HDd.out.size))
                  clear hbq
                  refine hK.out _ _ ((HCE.out _ (HBd1.out)).1) (fun hHeld => ?_)
                  clear hK K
                  try simp only [Act.put, List.setIfInBounds_toArray, List.set_cons_zero, List.set_cons_succ]
                  refine wpAnyH_take (i := 7) (oi := ?oi7d) (v := (.bool true)) ?hi7d ?hs7d ?hf7d ?hr7d ?hQ7d ?hy7d ?hS7d ?h7d
                  case hi7d => exact (by simp only [List.getElem?_toArray, List.getElem?_cons_succ, List.getElem?_cons_zero]; rfl)
                  case hs7d => kernel_rfl
                  case hf7d => kernel_rfl
                  case hr7d => kernel_rfl
                  case hQ7d => exact fun _ _ _ h => h
                  case hy7d =>
                    refine Or.inl ⟨rfl, ?_⟩
                    intro W hSw
                    go_simp
                    try simp [hwr, h4]
                  case hS7d => assumption
                  try simp only [Act.put, List.setIfInBounds_toArray, List.set_cons_zero, List.set_cons_succ]
                  refine wpAnyH_take (i := 8) (oi := ?oi8d) (v := ?v8d) ?hi8d ?hs8d ?hf8d ?hr8d ?hQ8d ?hy8d ?hS8d ?h8d
                  case hi8d => exact (by simp only [List.getElem?_toArray, List.getElem?_cons_succ, List.getElem?_cons_zero]; rfl)
                  case hs8d => kernel_rfl
                  case hf8d => kernel_rfl
                  case hr8d => kernel_rfl
                  case hQ8d => exact fun _ _ _ h => h
                  case hy8d =>
                    refine Or.inl ⟨rfl, ?_⟩
                    intro W hSw
                    go_simp
                    try with_reducible rfl
                  case hS8d => assumption
                  try simp only [Act.put, List.setIfInBounds_toArray, List.set_cons_zero, List.set_cons_succ]
                  refine wpAnyH_take (i := 9) (oi := ?oi9d) (v := ?v9d) ?hi9d ?hs9d ?hf9d ?hr9d ?hQ9d ?hy9d ?hS9d ?h9d
                  case hi9d => exact (by simp only [List.getElem?_toArray, List.getElem?_cons_succ, List.getElem?_cons_zero]; rfl)
                  case hs9d => kernel_rfl
                  case hf9d => kernel_rfl
                  case hr9d => kernel_rfl
                  case hQ9d => exact fun _ _ _ h => h
                  case hy9d =>
                    refine Or.inl ⟨rfl, ?_⟩
                    intro W hSw
                    go_simp
                    try with_reducible rfl
                  case hS9d => assumption
                  try simp only [Act.put, List.setIfInBounds_toArray, List.set_cons_zero, List.set_cons_succ]
                  refine wpAnyH_take (i := 10) (oi := ?oi10d) (v := ?v10d) ?hi10d ?hs10d ?hf10d ?hr10d ?hQ10d ?hy10d ?hS10d ?h10d
                  case hi10d => exact (by simp only [List.getElem?_toArray, List.getElem?_cons_succ, List.getElem?_cons_zero]; rfl)
                  case hs10d => kernel_rfl
                  case hf10d => kernel_rfl
                  case hr10d => kernel_rfl
                  case hQ10d => exact fun _ _ _ h => h
                  case hy10d =>
                    refine Or.inl ⟨rfl, ?_⟩
                    intro W hSw
                    go_simp
                    try with_reducible rfl
                  case hS10d => assumption
                  try simp only [Act.put, List.setIfInBounds_toArray, List.set_cons_zero, List.set_cons_succ]
                  refine wpAnyH_take (i := 11) (oi := ?oi11d) (v := ?v11d) ?hi11d ?hs11d ?hf11d ?hr11d ?hQ11d ?hy11d ?hS11d ?h11d
                  case hi11d => exact (by simp only [List.getElem?_toArray, List.getElem?_cons_succ, List.getElem?_cons_zero]; rfl)
                  case hs11d => kernel_rfl
                  case hf11d => kernel_rfl
                  case hr11d => kernel_rfl
                  case hQ11d => exact fun _ _ _ h => h
                  case hy11d =>
                    refine Or.inl ⟨rfl, ?_⟩
                    intro W hSw
                    go_simp
                    try with_reducible rfl
                  case hS11d => assumption
                  try simp only [Act.put, List.setIfInBounds_toArray, List.set_cons_zero, List.set_cons_succ]
                  refine wpAnyH_take (i := 12) (oi := ?oi12d) (v := ?v12d) ?hi12d ?hs12d ?hf12d ?hr12d ?hQ12d ?hy12d ?hS12d ?h12d
                  case hi12d => exact (by simp only [List.getElem?_toArray, List.getElem?_cons_succ, List.getElem?_cons_zero]; rfl)
                  case hs12d => kernel_rfl
                  case hf12d => kernel_rfl
                  case hr12d => kernel_rfl
                  case hQ12d => exact fun _ _ _ h => h
                  case hy12d =>
                    refine Or.inl ⟨rfl, ?_⟩
                    intro W hSw
                    go_simp
                    try with_reducible rfl
                  case hS12d => assumption
                  try simp only [Act.put, List.setIfInBounds_toArray, List.set_cons_zero, List.set_cons_succ]
                  refine wpAnyH_take (i := 13) (oi := ?oi13d) (v := ?v13d) ?hi13d ?hs13d ?hf13d ?hr13d ?hQ13d ?hy13d ?hS13d ?h13d
                  case hi13d => exact (by simp only [List.getElem?_toArray, List.getElem?_cons_succ, List.getElem?_cons_zero]; rfl)
                  case hs13d => kernel_rfl
                  case hf13d => kernel_rfl
                  case hr13d => kernel_rfl
                  case hQ13d => exact fun _ _ _ h => h
                  case hy13d =>
                    refine Or.inl ⟨rfl, ?_⟩
                    intro W hSw
                    go_simp
                    try with_reducible rfl
                  case hS13d => assumption
                  try simp only [Act.put, List.setIfInBounds_toArray, List.set_cons_zero, List.set_cons_succ]
                  refine wpAnyH_take (i := 15) (oi := ?oi15d) (v := ?v15d) ?hi15d ?hs15d ?hf15d ?hr15d ?hQ15d ?hy15d ?hS15d ?h15d
                  case hi15d => exact (by simp only [List.getElem?_toArray, List.getElem?_cons_succ, List.getElem?_cons_zero]; rfl)
                  case hs15d => kernel_rfl
                  case hf15d => kernel_rfl
                  case hr15d => kernel_rfl
                  case hQ15d => exact fun _ _ _ h => h
                  case hy15d =>
                    refine Or.inl ⟨rfl, ?_⟩
                    intro W hSw
                    go_simp
                    try with_reducible rfl
                  case hS15d => assumption
                  try simp only [Act.put, List.setIfInBounds_toArray, List.set_cons_zero, List.set_cons_succ]
                  refine wpAnyH_take (i := 16) (oi := ?oi16d) (v := ?v16d) ?hi16d ?hs16d ?hf16d ?hr16d ?hQ16d ?hy16d ?hS16d ?h16d
                  case hi16d => exact (by simp only [List.getElem?_toArray, List.getElem?_cons_succ, List.getElem?_cons_zero]; rfl)
                  case hs16d => kernel_rfl
                  case hf16d => kernel_rfl
                  case hr16d => kernel_rfl
                  case hQ16d => exact fun _ _ _ h => h
                  case hy16d =>
                    refine Or.inl ⟨rfl, ?_⟩
                    intro W hSw
                    go_simp
                    try with_reducible rfl
                  case hS16d => assumption
                  try simp only [Act.put, List.setIfInBounds_toArray, List.set_cons_zero, List.set_cons_succ]
                  refine wpAnyH_ready (rs := [14]) (by kernel_rfl) (by simp) ?_
                  refine AllReadyH.cons (o := _) rfl (fun K hK => ?_) AllReadyH.nil
                  go_simp
                  refine (HRT.out Wd1 _ HBd1.out).mono ?_
                  rintro r Wd2 ⟨rfl, hbq⟩
                  have HBd2 := Lib.hid (HBd1.out.trans (hbq.mono HBd1.out.size))
                  clear hbq
                  refine hK.out _ _ ((HCE.out _ (HBd2.out)).1) (fun hHeld => ?_)
                  clear hK K
                  try simp only [Act.put, List.setIfInBounds_toArray, List.set_cons_zero, List.set_cons_succ]
                  refine wpAnyH_ready (rs := [17]) (by kernel_rfl) (by simp) ?_
                  refine AllReadyH.cons (o := _) rfl (fun K hK => ?_) AllReadyH.nil
                  go_simp
                  refine (HRT.out Wd2 _ HBd2.out).mono ?_
                  rintro r Wd3 ⟨rfl, hbq⟩
                  have HBd3 := Lib.hid (HBd2.out.trans (hbq.mono HBd2.out.size))
                  clear hbq
                  refine hK.out _ _ ((HCE.out _ (HBd3.out)).1) (fun hHeld => ?_)
                  clear hK K
                  try simp only [Act.put, List.setIfInBounds_toArray, List.set_cons_zero, List.set_cons_succ]
                  refine wpAnyH_take (i := 18) (oi := ?oi18d) (v := (.bool false)) ?hi18d ?hs18d ?hf18d ?hr18d ?hQ18d ?hy18d ?hS18d ?h18d
                  case hi18d => exact (by simp only [List.getElem?_toArray, List.getElem?_cons_succ, List.getElem?_cons_zero]; rfl)
                  case hs18d => kernel_rfl
                  case hf18d => kernel_rfl
                  case hr18d => kernel_rfl
                  case hQ18d => exact fun _ _ _ h => h
                  case hy18d =>
                    refine Or.inl ⟨rfl, ?_⟩
                    intro W hSw
                    go_simp
                    try simp [h5]
                  case hS18d => assumption
                  try simp only [Act.put, List.setIfInBounds_toArray, List.set_cons_zero, List.set_cons_succ]
                  refine wpAnyH_take (i := 19) (oi := ?oi19d) (v := (.bool false)) ?hi19d ?hs19d ?hf19d ?hr19d ?hQ19d ?hy19d ?hS19d ?h19d
                  case hi19d => exact (by simp only [List.getElem?_toArray, List.getElem?_cons_succ, List.getElem?_cons_zero]; rfl)
                  case hs19d => kernel_rfl
                  case hf19d => kernel_rfl
                  case hr19d => kernel_rfl
                  case hQ19d => exact fun _ _ _ h => h
                  case hy19d =>
                    refine Or.inl ⟨rfl, ?_⟩
                    intro W hSw
                    go_simp
                    try with_reducible rfl
                  case hS19d => assumption
                  try simp only [Act.put, List.setIfInBounds_toArray, List.set_cons_zero, List.set_cons_succ]
                  refine wpAnyH_take (i := 20) (oi := ?oi20d) (v := (.bool false)) ?hi20d ?hs20d ?hf20d ?hr20d ?hQ20d ?hy20d ?hS20d ?h20d
                  case hi20d => exact (by simp only [List.getElem?_toArray, List.getElem?_cons_succ, List.getElem?_cons_zero]; rfl)
                  case hs20d => kernel_rfl
                  case hf20d => kernel_rfl
                  case hr20d => kernel_rfl
                  case hQ20d => exact fun _ _ _ h => h
                  case hy20d =>
                    refine Or.inl ⟨rfl, ?_⟩
                    intro W hSw
                    go_simp
                    try with_reducible rfl
                  case hS20d => assumption
                  try simp only [Act.put, List.setIfInBounds_toArray, List.set_cons_zero, List.set_cons_succ]
                  refine wpAnyH_done (by kernel_rfl) ?_ _
                  go_wp2
                  have HBZ := HBd3
                  go_roundw
                  case rel => exact ⟨_, 3, rfl, rfl, .inr (.inr ⟨rfl, rfl⟩), HBZ.out⟩
                  case measure => simp [intOf] <;> omega
              · obtain rfl : res = 1 := by rw [HRES.out, if_neg (by omega), if_pos (by omega)]
                have hwr : IntKind.i64.wrap (m.k - p) = m.k - p := by rw [IntKind.wrap_i64]; omega
                go_upto_region 7 with (fail)
                have HDe : Hid (Below w0.heap.size w0 wr.drew) := HB9.out.drew
                refine wp_region_held_drew (S := fun W : World => W.cell? ⟨w.heap.size, 0, none⟩ = some (.int .i64 m.k)) (by kernel_rfl) ((HCE.out _ (HDe.out)).1) (fun hHeld => ?_)
                obtain ⟨We0, hW0⟩ : ∃ W0, W0 = wr.drew := ⟨_, rfl⟩
                rw [← hW0] at hHeld HDe ⊢
                clear hW0
                refine wpAnyH_take (i := 0) (oi := ?oi0e) (v := ?v0e) ?hi0e ?hs0e ?hf0e ?hr0e ?hQ0e ?hy0e ?hS0e ?h0e
                case hi0e => exact (by simp only [List.getElem?_toArray, List.getElem?_cons_zero]; rfl)
                case hs0e => kernel_rfl
                case hf0e => kernel_rfl
                case hr0e => kernel_rfl
                case hQ0e => exact fun _ _ _ h => h
                case hy0e =>
                  refine Or.inl ⟨rfl, ?_⟩
                  intro W hSw
                  go_simp
                  try with_reducible rfl
                case hS0e => assumption
                try simp only [Act.put, List.setIfInBounds_toArray, List.set_cons_zero, List.set_cons_succ]
                refine wpAnyH_take (i := 1) (oi := ?oi1e) (v := ?v1e) ?hi1e ?hs1e ?hf1e ?hr1e ?hQ1e ?hy1e ?hS1e ?h1e
                case hi1e => exact (by simp only [List.getElem?_toArray, List.getElem?_cons_succ, List.getElem?_cons_zero]; rfl)
                case hs1e => kernel_rfl
                case hf1e => kernel_rfl
                case hr1e => kernel_rfl
                case hQ1e => exact fun _ _ _ h => h
                case hy1e =>
                  refine Or.inl ⟨rfl, ?_⟩
                  intro W hSw
                  go_simp
                  try with_reducible rfl
                case hS1e => assumption
                try simp only [Act.put, List.setIfInBounds_toArray, List.set_cons_zero, List.set_cons_succ]
                refine wpAnyH_take (i := 3) (oi := ?oi3e) (v := ?v3e) ?hi3e ?hs3e ?hf3e ?hr3e ?hQ3e ?hy3e ?hS3e ?h3e
                case hi3e => exact (by simp only [List.getElem?_toArray, List.getElem?_cons_succ, List.getElem?_cons_zero]; rfl)
                case hs3e => kernel_rfl
                case hf3e => kernel_rfl
                case hr3e => kernel_rfl
                case hQ3e => exact fun _ _ _ h => h
                case hy3e =>
                  refine Or.inl ⟨rfl, ?_⟩
                  intro W hSw
                  go_simp
                  try with_reducible rfl
                case hS3e => assumption
                try simp only [Act.put, List.setIfInBounds_toArray, List.set_cons_zero, List.set_cons_succ]
                refine wpAnyH_take (i := 4) (oi := ?oi4e) (v := ?v4e) ?hi4e ?hs4e ?hf4e ?hr4e ?hQ4e ?hy4e ?hS4e ?h4e
                case hi4e => exact (by simp only [List.getElem?_toArray, List.getElem?_cons_succ, List.getElem?_cons_zero]; rfl)
                case hs4e => kernel_rfl
                case hf4e => kernel_rfl
                case hr4e => kernel_rfl
                case hQ4e => exact fun _ _ _ h => h
                case hy4e =>
                  refine Or.inl ⟨rfl, ?_⟩
                  intro W hSw
                  go_simp
                  try with_reducible rfl
                case hS4e => assumption
                try simp only [Act.put, List.setIfInBounds_toArray, List.set_cons_zero, List.set_cons_succ]
                refine wpAnyH_take (i := 5) (oi := ?oi5e) (v := ?v5e) ?hi5e ?hs5e ?hf5e ?hr5e ?hQ5e ?hy5e ?hS5e ?h5e
                case hi5e => exact (by simp only [List.getElem?_toArray, List.getElem?_cons_succ, List.getElem?_cons_zero]; rfl)
                case hs5e => kernel_rfl
                case hf5e => kernel_rfl
                case hr5e => kernel_rfl
                case hQ5e => exact fun _ _ _ h => h
                case hy5e =>
                  refine Or.inl ⟨rfl, ?_⟩
                  intro W hSw
                  go_simp
                  try with_reducible rfl
                case hS5e => assumption
                try simp only [Act.put, List.setIfInBounds_toArray, List.set_cons_zero, List.set_cons_succ]
                refine wpAnyH_take (i := 6) (oi := ?oi6e) (v := ?v6e) ?hi6e ?hs6e ?hf6e ?hr6e ?hQ6e ?hy6e ?hS6e ?h6e
                case hi6e => exact (by simp only [List.getElem?_toArray, List.getElem?_cons_succ, List.getElem?_cons_zero]; rfl)
                case hs6e => kernel_rfl
                case hf6e => kernel_rfl
                case hr6e => kernel_rfl
                case hQ6e => exact fun _ _ _ h => h
                case hy6e =>
                  refine Or.inl ⟨rfl, ?_⟩
                  intro W hSw
                  go_simp
                  try with_reducible rfl
                case hS6e => assumption
                try simp only [Act.put, List.setIfInBounds_toArray, List.set_cons_zero, List.set_cons_succ]
                refine wpAnyH_ready (rs := [2]) (by kernel_rfl) (by simp) ?_
                refine AllReadyH.cons (o := _) rfl (fun K hK => ?_) AllReadyH.nil
                go_simp
                refine (HRT.out We0 _ HDe.out).mono ?_
                rintro r We1 ⟨rfl, hbq⟩
                have HBe1 := Lib.hid (HDe.out.trans (hbq.mono HDe.out.size))
                clear hbq
                refine hK.out _ _ ((HCE.out _ (HBe1.out)).1) (fun hHeld => ?_)
                clear hK K
                try simp only [Act.put, List.setIfInBounds_toArray, List.set_cons_zero, List.set_cons_succ]
                refine wpAnyH_take (i := 7) (oi := ?oi7e) (v := (.bool false)) ?hi7e ?hs7e ?hf7e ?hr7e ?hQ7e ?hy7e ?hS7e ?h7e
                case hi7e => exact (by simp only [List.getElem?_toArray, List.getElem?_cons_succ, List.getElem?_cons_zero]; rfl)
                case hs7e => kernel_rfl
                case hf7e => kernel_rfl
                case hr7e => kernel_rfl
                case hQ7e => exact fun _ _ _ h => h
                case hy7e =>
                  refine Or.inl ⟨rfl, ?_⟩
                  intro W hSw
                  go_simp
                  try simp [hwr, h4]
                case hS7e => assumption
                try simp only [Act.put, List.setIfInBounds_toArray, List.set_cons_zero, List.set_cons_succ]
                refine wpAnyH_take (i := 8) (oi := ?oi8e) (v := ?v8e) ?hi8e ?hs8e ?hf8e ?hr8e ?hQ8e ?hy8e ?hS8e ?h8e
                case hi8e => exact (by simp only [List.getElem?_toArray, List.getElem?_cons_succ, List.getElem?_cons_zero]; rfl)
                case hs8e => kernel_rfl
                case hf8e => kernel_rfl
                case hr8e => kernel_rfl
                case hQ8e => exact fun _ _ _ h => h
                case hy8e =>
                  refine Or.inl ⟨rfl, ?_⟩
                  intro W hSw
                  go_simp
                  try with_reducible rfl
                case hS8e => assumption
                try simp only [Act.put, List.setIfInBounds_toArray, List.set_cons_zero, List.set_cons_succ]
                refine wpAnyH_take (i := 9) (oi := ?oi9e) (v := undef) ?hi9e ?hs9e ?hf9e ?hr9e ?hQ9e ?hy9e ?hS9e ?h9e
                case hi9e => exact (by simp only [List.getElem?_toArray, List.getElem?_cons_succ, List.getElem?_cons_zero]; rfl)
                case hs9e => kernel_rfl
                case hf9e => kernel_rfl
                case hr9e => kernel_rfl
                case hQ9e => exact fun _ _ _ h => h
                case hy9e =>
                  exact Or.inr ⟨rfl, rfl⟩
                case hS9e => assumption
                try simp only [Act.put, List.setIfInBounds_toArray, List.set_cons_zero, List.set_cons_succ]
                refine wpAnyH_take (i := 10) (oi := ?oi10e) (v := undef) ?hi10e ?hs10e ?hf10e ?hr10e ?hQ10e ?hy10e ?hS10e ?h10e
                case hi10e => exact (by simp only [List.getElem?_toArray, List.getElem?_cons_succ, List.getElem?_cons_zero]; rfl)
                case hs10e => kernel_rfl
                case hf10e => kernel_rfl
                case hr10e => kernel_rfl
                case hQ10e => exact fun _ _ _ h => h
                case hy10e =>
                  exact Or.inr ⟨rfl, rfl⟩
                case hS10e => assumption
                try simp only [Act.put, List.setIfInBounds_toArray, List.set_cons_zero, List.set_cons_succ]
                refine wpAnyH_take (i := 11) (oi := ?oi11e) (v := undef) ?hi11e ?hs11e ?hf11e ?hr11e ?hQ11e ?hy11e ?hS11e ?h11e
                case hi11e => exact (by simp only [List.getElem?_toArray, List.getElem?_cons_succ, List.getElem?_cons_zero]; rfl)
                case hs11e => kernel_rfl
                case hf11e => kernel_rfl
                case hr11e => kernel_rfl
                case hQ11e => exact fun _ _ _ h => h
                case hy11e =>
                  exact Or.inr ⟨rfl, rfl⟩
                case hS11e => assumption
                try simp only [Act.put, List.setIfInBounds_toArray, List.set_cons_zero, List.set_cons_succ]
                refine wpAnyH_take (i := 12) (oi := ?oi12e) (v := undef) ?hi12e ?hs12e ?hf12e ?hr12e ?hQ12e ?hy12e ?hS12e ?h12e
                case hi12e => exact (by simp only [List.getElem?_toArray, List.getElem?_cons_succ, List.getElem?_cons_zero]; rfl)
                case hs12e => kernel_rfl
                case hf12e => kernel_rfl
                case hr12e => kernel_rfl
                case hQ12e => exact fun _ _ _ h => h
                case hy12e =>
                  exact Or.inr ⟨rfl, rfl⟩
                case hS12e => assumption
                try simp only [Act.put, List.setIfInBounds_toArray, List.set_cons_zero, List.set_cons_succ]
                refine wpAnyH_take (i := 13) (oi := ?oi13e) (v := undef) ?hi13e ?hs13e ?hf13e ?hr13e ?hQ13e ?hy13e ?hS13e ?h13e
                case hi13e => exact (by simp only [List.getElem?_toArray, List.getElem?_cons_succ, List.getElem?_cons_zero]; rfl)
                case hs13e => kernel_rfl
                case hf13e => kernel_rfl
                case hr13e => kernel_rfl
                case hQ13e => exact fun _ _ _ h => h
                case hy13e =>
                  exact Or.inr ⟨rfl, rfl⟩
                case hS13e => assumption
                try simp only [Act.put, List.setIfInBounds_toArray, List.set_cons_zero, List.set_cons_succ]
                refine wpAnyH_take (i := 14) (oi := ?oi14e) (v := undef) ?hi14e ?hs14e ?hf14e ?hr14e ?hQ14e ?hy14e ?hS14e ?h14e
                case hi14e => exact (by simp only [List.getElem?_toArray, List.getElem?_cons_succ, List.getElem?_cons_zero]; rfl)
                case hs14e => kernel_rfl
                case hf14e => kernel_rfl
                case hr14e => kernel_rfl
                case hQ14e => exact fun _ _ _ h => h
                case hy14e =>
                  exact Or.inr ⟨rfl, rfl⟩
                case hS14e => assumption
                try simp only [Act.put, List.setIfInBounds_toArray, List.set_cons_zero, List.set_cons_succ]
                refine wpAnyH_take (i := 15) (oi := ?oi15e) (v := undef) ?hi15e ?hs15e ?hf15e ?hr15e ?hQ15e ?hy15e ?hS15e ?h15e
                case hi15e => exact (by simp only [List.getElem?_toArray, List.getElem?_cons_succ, List.getElem?_cons_zero]; rfl)
                case hs15e => kernel_rfl
                case hf15e => kernel_rfl
                case hr15e => kernel_rfl
                case hQ15e => exact fun _ _ _ h => h
                case hy15e =>
                  exact Or.inr ⟨rfl, rfl⟩
                case hS15e => assumption
                try simp only [Act.put, List.setIfInBounds_toArray, List.set_cons_zero, List.set_cons_succ]
                refine wpAnyH_take (i := 16) (oi := ?oi16e) (v := undef) ?hi16e ?hs16e ?hf16e ?hr16e ?hQ16e ?hy16e ?hS16e ?h16e
                case hi16e => exact (by simp only [List.getElem?_toArray, List.getElem?_cons_succ, List.getElem?_cons_zero]; rfl)
                case hs16e => kernel_rfl
                case hf16e => kernel_rfl
                case hr16e => kernel_rfl
                case hQ16e => exact fun _ _ _ h => h
                case hy16e =>
                  exact Or.inr ⟨rfl, rfl⟩
                case hS16e => assumption
                try simp only [Act.put, List.setIfInBounds_toArray, List.set_cons_zero, List.set_cons_succ]
                refine wpAnyH_take (i := 17) (oi := ?oi17e) (v := undef) ?hi17e ?hs17e ?hf17e ?hr17e ?hQ17e ?hy17e ?hS17e ?h17e
                case hi17e => exact (by simp only [List.getElem?_toArray, List.getElem?_cons_succ, List.getElem?_cons_zero]; rfl)
                case hs17e => kernel_rfl
                case hf17e => kernel_rfl
                case hr17e => kernel_rfl
                case hQ17e => exact fun _ _ _ h => h
                case hy17e =>
                  exact Or.inr ⟨rfl, rfl⟩
                case hS17e => assumption
                try simp only [Act.put, List.setIfInBounds_toArray, List.set_cons_zero, List.set_cons_succ]
                refine wpAnyH_take (i := 18) (oi := ?oi18e) (v := undef) ?hi18e ?hs18e ?hf18e ?hr18e ?hQ18e ?hy18e ?hS18e ?h18e
                case hi18e => exact (by simp only [List.getElem?_toArray, List.getElem?_cons_succ, List.getElem?_cons_zero]; rfl)
                case hs18e => kernel_rfl
                case hf18e => kernel_rfl
                case hr18e => kernel_rfl
                case hQ18e => exact fun _ _ _ h => h
                case hy18e =>
                  exact Or.inr ⟨rfl, rfl⟩
                case hS18e => assumption
                try simp only [Act.put, List.setIfInBounds_toArray, List.set_cons_zero, List.set_cons_succ]
                refine wpAnyH_take (i := 19) (oi := ?oi19e) (v := undef) ?hi19e ?hs19e ?hf19e ?hr19e ?hQ19e ?hy19e ?hS19e ?h19e
                case hi19e => exact (by simp only [List.getElem?_toArray, List.getElem?_cons_succ, List.getElem?_cons_zero]; rfl)
                case hs19e => kernel_rfl
                case hf19e => kernel_rfl
                case hr19e => kernel_rfl
                case hQ19e => exact fun _ _ _ h => h
                case hy19e =>
                  exact Or.inr ⟨rfl, rfl⟩
                case hS19e => assumption
                try simp only [Act.put, List.setIfInBounds_toArray, List.set_cons_zero, List.set_cons_succ]
                refine wpAnyH_take (i := 20) (oi := ?oi20e) (v := (.bool false)) ?hi20e ?hs20e ?hf20e ?hr20e ?hQ20e ?hy20e ?hS20e ?h20e
                case hi20e => exact (by simp only [List.getElem?_toArray, List.getElem?_cons_succ, List.getElem?_cons_zero]; rfl)
                case hs20e => kernel_rfl
                case hf20e => kernel_rfl
                case hr20e => kernel_rfl
                case hQ20e => exact fun _ _ _ h => h
                case hy20e =>
                  refine Or.inl ⟨rfl, ?_⟩
                  intro W hSw
                  go_simp
                  try with_reducible rfl
                case hS20e => assumption
                try simp only [Act.put, List.setIfInBounds_toArray, List.set_cons_zero, List.set_cons_succ]
                refine wpAnyH_done (by kernel_rfl) ?_ _
                go_wp2
                have HBZ := HBe1
                go_roundw
                case rel => exact ⟨_, 3, rfl, rfl, .inr (.inr ⟨rfl, rfl⟩), HBZ.out⟩
                case measure => simp [intOf] <;> omega
            · have hz := HB1'.out
              rw [if_neg h3] at hz
              subst hz
              by_cases h4 : takP 2 l ≤ m.k - p
              · obtain rfl : res = 2 := by rw [HRES.out, if_pos (by omega), if_pos (by omega)]
                have hwr : IntKind.i64.wrap (m.k - p) = m.k - p := by rw [IntKind.wrap_i64]; omega
                go_upto_region 7 with (fail)
                have HDf : Hid (Below w0.heap.size w0 wr.drew) := HB9.out.drew
                refine wp_region_held_drew (S := fun W : World => W.cell? ⟨w.heap.size, 0, none⟩ = some (.int .i64 m.k)) (by kernel_rfl) ((HCE.out _ (HDf.out)).1) (fun hHeld => ?_)
                obtain ⟨Wf0, hW0⟩ : ∃ W0, W0 = wr.drew := ⟨_, rfl⟩
                rw [← hW0] at hHeld HDf ⊢
                clear hW0
                refine wpAnyH_take (i := 0) (oi := ?oi0f) (v := ?v0f) ?hi0f ?hs0f ?hf0f ?hr0f ?hQ0f ?hy0f ?hS0f ?h0f
                case hi0f => exact (by simp only [List.getElem?_toArray, List.getElem?_cons_zero]; rfl)
                case hs0f => kernel_rfl
                case hf0f => kernel_rfl
                case hr0f => kernel_rfl
                case hQ0f => exact fun _ _ _ h => h
                case hy0f =>
                  refine Or.inl ⟨rfl, ?_⟩
                  intro W hSw
                  go_simp
                  try with_reducible rfl
                case hS0f => assumption
                try simp only [Act.put, List.setIfInBounds_toArray, List.set_cons_zero, List.set_cons_succ]
                refine wpAnyH_take (i := 1) (oi := ?oi1f) (v := ?v1f) ?hi1f ?hs1f ?hf1f ?hr1f ?hQ1f ?hy1f ?hS1f ?h1f
                case hi1f => exact (by simp only [List.getElem?_toArray, List.getElem?_cons_succ, List.getElem?_cons_zero]; rfl)
                case hs1f => kernel_rfl
                case hf1f => kernel_rfl
                case hr1f => kernel_rfl
                case hQ1f => exact fun _ _ _ h => h
                case hy1f =>
                  refine Or.inl ⟨rfl, ?_⟩
                  intro W hSw
                  go_simp
                  try with_reducible rfl
                case hS1f => assumption
                try simp only [Act.put, List.setIfInBounds_toArray, List.set_cons_zero, List.set_cons_succ]
                refine wpAnyH_take (i := 3) (oi := ?oi3f) (v := ?v3f) ?hi3f ?hs3f ?hf3f ?hr3f ?hQ3f ?hy3f ?hS3f ?h3f
                case hi3f => exact (by simp only [List.getElem?_toArray, List.getElem?_cons_succ, List.getElem?_cons_zero]; rfl)
                case hs3f => kernel_rfl
                case hf3f => kernel_rfl
                case hr3f => kernel_rfl
                case hQ3f => exact fun _ _ _ h => h
                case hy3f =>
                  refine Or.inl ⟨rfl, ?_⟩
                  intro W hSw
                  go_simp
                  try with_reducible rfl
                case hS3f => assumption
                try simp only [Act.put, List.setIfInBounds_toArray, List.set_cons_zero, List.set_cons_succ]
                refine wpAnyH_take (i := 4) (oi := ?oi4f) (v := ?v4f) ?hi4f ?hs4f ?hf4f ?hr4f ?hQ4f ?hy4f ?hS4f ?h4f
                case hi4f => exact (by simp only [List.getElem?_toArray, List.getElem?_cons_succ, List.getElem?_cons_zero]; rfl)
                case hs4f => kernel_rfl
                case hf4f => kernel_rfl
                case hr4f => kernel_rfl
                case hQ4f => exact fun _ _ _ h => h
                case hy4f =>
                  refine Or.inl ⟨rfl, ?_⟩
                  intro W hSw
                  go_simp
                  try with_reducible rfl
                case hS4f => assumption
                try simp only [Act.put, List.setIfInBounds_toArray, List.set_cons_zero, List.set_cons_succ]
                refine wpAnyH_take (i := 5) (oi := ?oi5f) (v := ?v5f) ?hi5f ?hs5f ?hf5f ?hr5f ?hQ5f ?hy5f ?hS5f ?h5f
                case hi5f => exact (by simp only [List.getElem?_toArray, List.getElem?_cons_succ, List.getElem?_cons_zero]; rfl)
                case hs5f => kernel_rfl
                case hf5f => kernel_rfl
                case hr5f => kernel_rfl
                case hQ5f => exact fun _ _ _ h => h
                case hy5f =>
                  refine Or.inl ⟨rfl, ?_⟩
                  intro W hSw
                  go_simp
                  try with_reducible rfl
                case hS5f => assumption
                try simp only [Act.put, List.setIfInBounds_toArray, List.set_cons_zero, List.set_cons_succ]
                refine wpAnyH_take (i := 6) (oi := ?oi6f) (v := ?v6f) ?hi6f ?hs6f ?hf6f ?hr6f ?hQ6f ?hy6f ?hS6f ?h6f
                case hi6f => exact (by simp only [List.getElem?_toArray, List.getElem?_cons_succ, List.getElem?_cons_zero]; rfl)
                case hs6f => kernel_rfl
                case hf6f => kernel_rfl
                case hr6f => kernel_rfl
                case hQ6f => exact fun _ _ _ h => h
                case hy6f =>
                  refine Or.inl ⟨rfl, ?_⟩
                  intro W hSw
                  go_simp
                  try with_reducible rfl
                case hS6f => assumption
                try simp only [Act.put, List.setIfInBounds_toArray, List.set_cons_zero, List.set_cons_succ]
                refine wpAnyH_ready (rs := [2]) (by kernel_rfl) (by simp) ?_
                refine AllReadyH.cons (o := _) rfl (fun K hK => ?_) AllReadyH.nil
                go_simp
                refine (HRT.out Wf0 _ HDf.out).mono ?_
                rintro r Wf1 ⟨rfl, hbq⟩
                have HBf1 := Lib.hid (HDf.out.trans (hbq.mono HDf.out.size))
                clear hbq
                refine hK.out _ _ ((HCE.out _ (HBf1.out)).1) (fun hHeld => ?_)
                clear hK K
                try simp only [Act.put, List.setIfInBounds_toArray, List.set_cons_zero, List.set_cons_succ]
                refine wpAnyH_take (i := 7) (oi := ?oi7f) (v := (.bool true)) ?hi7f ?hs7f ?hf7f ?hr7f ?hQ7f ?hy7f ?hS7f ?h7f
                case hi7f => exact (by simp only [List.getElem?_toArray, List.getElem?_cons_succ, List.getElem?_cons_zero]; rfl)
                case hs7f => kernel_rfl
                case hf7f => kernel_rfl
                case hr7f => kernel_rfl
                case hQ7f => exact fun _ _ _ h => h
                case hy7f =>
                  refine Or.inl ⟨rfl, ?_⟩
                  intro W hSw
                  go_simp
                  try simp [hwr, h4]
                case hS7f => assumption
                try simp only [Act.put, List.setIfInBounds_toArray, List.set_cons_zero, List.set_cons_succ]
                refine wpAnyH_take (i := 8) (oi := ?oi8f) (v := ?v8f) ?hi8f ?hs8f ?hf8f ?hr8f ?hQ8f ?hy8f ?hS8f ?h8f
                case hi8f => exact (by simp only [List.getElem?_toArray, List.getElem?_cons_succ, List.getElem?_cons_zero]; rfl)
                case hs8f => kernel_rfl
                case hf8f => kernel_rfl
                case hr8f => kernel_rfl
                case hQ8f => exact fun _ _ _ h => h
                case hy8f =>
                  refine Or.inl ⟨rfl, ?_⟩
                  intro W hSw
                  go_simp
                  try with_reducible rfl
                case hS8f => assumption
                try simp only [Act.put, List.setIfInBounds_toArray, List.set_cons_zero, List.set_cons_succ]
                refine wpAnyH_take (i := 9) (oi := ?oi9f) (v := ?v9f) ?hi9f ?hs9f ?hf9f ?hr9f ?hQ9f ?hy9f ?hS9f ?h9f
                case hi9f => exact (by simp only [List.getElem?_toArray, List.getElem?_cons_succ, List.getElem?_cons_zero]; rfl)
                case hs9f => kernel_rfl
                case hf9f => kernel_rfl
                case hr9f => kernel_rfl
                case hQ9f => exact fun _ _ _ h => h
                case hy9f =>
                  refine Or.inl ⟨rfl, ?_⟩
                  intro W hSw
                  go_simp
                  try with_reducible rfl
                case hS9f => assumption
                try simp only [Act.put, List.setIfInBounds_toArray, List.set_cons_zero, List.set_cons_succ]
                refine wpAnyH_take (i := 10) (oi := ?oi10f) (v := ?v10f) ?hi10f ?hs10f ?hf10f ?hr10f ?hQ10f ?hy10f ?hS10f ?h10f
                case hi10f => exact (by simp only [List.getElem?_toArray, List.getElem?_cons_succ, List.getElem?_cons_zero]; rfl)
                case hs10f => kernel_rfl
                case hf10f => kernel_rfl
                case hr10f => kernel_rfl
                case hQ10f => exact fun _ _ _ h => h
                case hy10f =>
                  refine Or.inl ⟨rfl, ?_⟩
                  intro W hSw
                  go_simp
                  try with_reducible rfl
                case hS10f => assumption
                try simp only [Act.put, List.setIfInBounds_toArray, List.set_cons_zero, List.set_cons_succ]
                refine wpAnyH_take (i := 11) (oi := ?oi11f) (v := ?v11f) ?hi11f ?hs11f ?hf11f ?hr11f ?hQ11f ?hy11f ?hS11f ?h11f
                case hi11f => exact (by simp only [List.getElem?_toArray, List.getElem?_cons_succ, List.getElem?_cons_zero]; rfl)
                case hs11f => kernel_rfl
                case hf11f => kernel_rfl
                case hr11f => kernel_rfl
                case hQ11f => exact fun _ _ _ h => h
                case hy11f =>
                  refine Or.inl ⟨rfl, ?_⟩
                  intro W hSw
                  go_simp
                  try with_reducible rfl
                case hS11f => assumption
                try simp only [Act.put, List.setIfInBounds_toArray, List.set_cons_zero, List.set_cons_succ]
                refine wpAnyH_take (i := 12) (oi := ?oi12f) (v := undef) ?hi12f ?hs12f ?hf12f ?hr12f ?hQ12f ?hy12f ?hS12f ?h12f
                case hi12f => exact (by simp only [List.getElem?_toArray, List.getElem?_cons_succ, List.getElem?_cons_zero]; rfl)
                case hs12f => kernel_rfl
                case hf12f => kernel_rfl
                case hr12f => kernel_rfl
                case hQ12f => exact fun _ _ _ h => h
                case hy12f =>
                  exact Or.inr ⟨rfl, rfl⟩
                case hS12f => assumption
                try simp only [Act.put, List.setIfInBounds_toArray, List.set_cons_zero, List.set_cons_succ]
                refine wpAnyH_take (i := 13) (oi := ?oi13f) (v := undef) ?hi13f ?hs13f ?hf13f ?hr13f ?hQ13f ?hy13f ?hS13f ?h13f
                case hi13f => exact (by simp only [List.getElem?_toArray, List.getElem?_cons_succ, List.getElem?_cons_zero]; rfl)
                case hs13f => kernel_rfl
                case hf13f => kernel_rfl
                case hr13f => kernel_rfl
                case hQ13f => exact fun _ _ _ h => h
                case hy13f =>
                  exact Or.inr ⟨rfl, rfl⟩
                case hS13f => assumption
                try simp only [Act.put, List.setIfInBounds_toArray, List.set_cons_zero, List.set_cons_succ]
                refine wpAnyH_take (i := 14) (oi := ?oi14f) (v := undef) ?hi14f ?hs14f ?hf14f ?hr14f ?hQ14f ?hy14f ?hS14f ?h14f
                case hi14f => exact (by simp only [List.getElem?_toArray, List.getElem?_cons_succ, List.getElem?_cons_zero]; rfl)
                case hs14f => kernel_rfl
                case hf14f => kernel_rfl
                case hr14f => kernel_rfl
                case hQ14f => exact fun _ _ _ h => h
                case hy14f =>
                  exact Or.inr ⟨rfl, rfl⟩
                case hS14f => assumption
                try simp only [Act.put, List.setIfInBounds_toArray, List.set_cons_zero, List.set_cons_succ]
                refine wpAnyH_take (i := 15) (oi := ?oi15f) (v := undef) ?hi15f ?hs15f ?hf15f ?hr15f ?hQ15f ?hy15f ?hS15f ?h15f
                case hi15f => exact (by simp only [List.getElem?_toArray, List.getElem?_cons_succ, List.getElem?_cons_zero]; rfl)
                case hs15f => kernel_rfl
                case hf15f => kernel_rfl
                case hr15f => kernel_rfl
                case hQ15f => exact fun _ _ _ h => h
                case hy15f =>
                  exact Or.inr ⟨rfl, rfl⟩
                case hS15f => assumption
                try simp only [Act.put, List.setIfInBounds_toArray, List.set_cons_zero, List.set_cons_succ]
                refine wpAnyH_take (i := 16) (oi := ?oi16f) (v := undef) ?hi16f ?hs16f ?hf16f ?hr16f ?hQ16f ?hy16f ?hS16f ?h16f
                case hi16f => exact (by simp only [List.getElem?_toArray, List.getElem?_cons_succ, List.getElem?_cons_zero]; rfl)
                case hs16f => kernel_rfl
                case hf16f => kernel_rfl
                case hr16f => kernel_rfl
                case hQ16f => exact fun _ _ _ h => h
                case hy16f =>
                  exact Or.inr ⟨rfl, rfl⟩
                case hS16f => assumption
                try simp only [Act.put, List.setIfInBounds_toArray, List.set_cons_zero, List.set_cons_succ]
                refine wpAnyH_take (i := 17) (oi := ?oi17f) (v := undef) ?hi17f ?hs17f ?hf17f ?hr17f ?hQ17f ?hy17f ?hS17f ?h17f
                case hi17f => exact (by simp only [List.getElem?_toArray, List.getElem?_cons_succ, List.getElem?_cons_zero]; rfl)
                case hs17f => kernel_rfl
                case hf17f => kernel_rfl
                case hr17f => kernel_rfl
                case hQ17f => exact fun _ _ _ h => h
                case hy17f =>
                  exact Or.inr ⟨rfl, rfl⟩
                case hS17f => assumption
                try simp only [Act.put, List.setIfInBounds_toArray, List.set_cons_zero, List.set_cons_succ]
                refine wpAnyH_take (i := 18) (oi := ?oi18f) (v := undef) ?hi18f ?hs18f ?hf18f ?hr18f ?hQ18f ?hy18f ?hS18f ?h18f
                case hi18f => exact (by simp only [List.getElem?_toArray, List.getElem?_cons_succ, List.getElem?_cons_zero]; rfl)
                case hs18f => kernel_rfl
                case hf18f => kernel_rfl
                case hr18f => kernel_rfl
                case hQ18f => exact fun _ _ _ h => h
                case hy18f =>
                  exact Or.inr ⟨rfl, rfl⟩
                case hS18f => assumption
                try simp only [Act.put, List.setIfInBounds_toArray, List.set_cons_zero, List.set_cons_succ]
                refine wpAnyH_take (i := 19) (oi := ?oi19f) (v := (.bool true)) ?hi19f ?hs19f ?hf19f ?hr19f ?hQ19f ?hy19f ?hS19f ?h19f
                case hi19f => exact (by simp only [List.getElem?_toArray, List.getElem?_cons_succ, List.getElem?_cons_zero]; rfl)
                case hs19f => kernel_rfl
                case hf19f => kernel_rfl
                case hr19f => kernel_rfl
                case hQ19f => exact fun _ _ _ h => h
                case hy19f =>
                  refine Or.inl ⟨rfl, ?_⟩
                  intro W hSw
                  go_simp
                  try with_reducible rfl
                case hS19f => assumption
                try simp only [Act.put, List.setIfInBounds_toArray, List.set_cons_zero, List.set_cons_succ]
                refine wpAnyH_take (i := 20) (oi := ?oi20f) (v := (.bool true)) ?hi20f ?hs20f ?hf20f ?hr20f ?hQ20f ?hy20f ?hS20f ?h20f
                case hi20f => exact (by simp only [List.getElem?_toArray, List.getElem?_cons_succ, List.getElem?_cons_zero]; rfl)
                case hs20f => kernel_rfl
                case hf20f => kernel_rfl
                case hr20f => kernel_rfl
                case hQ20f => exact fun _ _ _ h => h
                case hy20f =>
                  refine Or.inl ⟨rfl, ?_⟩
                  intro W hSw
                  go_simp
                  try with_reducible rfl
                case hS20f => assumption
                try simp only [Act.put, List.setIfInBounds_toArray, List.set_cons_zero, List.set_cons_succ]
                refine wpAnyH_done (by kernel_rfl) ?_ _
                go_wp2
                have HBZ := HBf1
                go_roundw
                case rel => exact ⟨_, 3, rfl, rfl, .inr (.inr ⟨rfl, rfl⟩), HBZ.out⟩
                case measure => simp [intOf] <;> omega
              · obtain rfl : res = 0 := by
                  rw [HRES.out]
                  split <;> exact if_neg (by omega)
                have hwr : IntKind.i64.wrap (m.k - p) = m.k - p := by rw [IntKind.wrap_i64]; omega
                go_upto_region 7 with (fail)
                have HDg : Hid (Below w0.heap.size w0 wr.drew) := HB9.out.drew
                refine wp_region_held_drew (S := fun W : World => W.cell? ⟨w.heap.size, 0, none⟩ = some (.int .i64 m.k)) (by kernel_rfl) ((HCE.out _ (HDg.out)).1) (fun hHeld => ?_)
                obtain ⟨Wg0, hW0⟩ : ∃ W0, W0 = wr.drew := ⟨_, rfl⟩
                rw [← hW0] at hHeld HDg ⊢
                clear hW0
                refine wpAnyH_take (i := 0) (oi := ?oi0g) (v := ?v0g) ?hi0g ?hs0g ?hf0g ?hr0g ?hQ0g ?hy0g ?hS0g ?h0g
                case hi0g => exact (by simp only [List.getElem?_toArray, List.getElem?_cons_zero]; rfl)
                case hs0g => kernel_rfl
                case hf0g => kernel_rfl
                case hr0g => kernel_rfl
                case hQ0g => exact fun _ _ _ h => h
                case hy0g =>
                  refine Or.inl ⟨rfl, ?_⟩
                  intro W hSw
                  go_simp
                  try with_reducible rfl
                case hS0g => assumption
                try simp only [Act.put, List.setIfInBounds_toArray, List.set_cons_zero, List.set_cons_succ]
                refine wpAnyH_take (i := 1) (oi := ?oi1g) (v := ?v1g) ?hi1g ?hs1g ?hf1g ?hr1g ?hQ1g ?hy1g ?hS1g ?h1g
                case hi1g => exact (by simp only [List.getElem?_toArray, List.getElem?_cons_succ, List.getElem?_cons_zero]; rfl)
                case hs1g => kernel_rfl
                case hf1g => kernel_rfl
                case hr1g => kernel_rfl
                case hQ1g => exact fun _ _ _ h => h
                case hy1g =>
                  refine Or.inl ⟨rfl, ?_⟩
                  intro W hSw
                  go_simp
                  try with_reducible rfl
                case hS1g => assumption
                try simp only [Act.put, List.setIfInBounds_toArray, List.set_cons_zero, List.set_cons_succ]
                refine wpAnyH_take (i := 3) (oi := ?oi3g) (v := ?v3g) ?hi3g ?hs3g ?hf3g ?hr3g ?hQ3g ?hy3g ?hS3g ?h3g
                case hi3g => exact (by simp only [List.getElem?_toArray, List.getElem?_cons_succ, List.getElem?_cons_zero]; rfl)
                case hs3g => kernel_rfl
                case hf3g => kernel_rfl
                case hr3g => kernel_rfl
                case hQ3g => exact fun _ _ _ h => h
                case hy3g =>
                  refine Or.inl ⟨rfl, ?_⟩
                  intro W hSw
                  go_simp
                  try with_reducible rfl
                case hS3g => assumption
                try simp only [Act.put, List.setIfInBounds_toArray, List.set_cons_zero, List.set_cons_succ]
                refine wpAnyH_take (i := 4) (oi := ?oi4g) (v := ?v4g) ?hi4g ?hs4g ?hf4g ?hr4g ?hQ4g ?hy4g ?hS4g ?h4g
                case hi4g => exact (by simp only [List.getElem?_toArray, List.getElem?_cons_succ, List.getElem?_cons_zero]; rfl)
                case hs4g => kernel_rfl
                case hf4g => kernel_rfl
                case hr4g => kernel_rfl
                case hQ4g => exact fun _ _ _ h => h
                case hy4g =>
                  refine Or.inl ⟨rfl, ?_⟩
                  intro W hSw
                  go_simp
                  try with_reducible rfl
                case hS4g => assumption
                try simp only [Act.put, List.setIfInBounds_toArray, List.set_cons_zero, List.set_cons_succ]
                refine wpAnyH_take (i := 5) (oi := ?oi5g) (v := ?v5g) ?hi5g ?hs5g ?hf5g ?hr5g ?hQ5g ?hy5g ?hS5g ?h5g
                case hi5g => exact (by simp only [List.getElem?_toArray, List.getElem?_cons_succ, List.getElem?_cons_zero]; rfl)
                case hs5g => kernel_rfl
                case hf5g => kernel_rfl
                case hr5g => kernel_rfl
                case hQ5g => exact fun _ _ _ h => h
                case hy5g =>
                  refine Or.inl ⟨rfl, ?_⟩
                  intro W hSw
                  go_simp
                  try with_reducible rfl
                case hS5g => assumption
                try simp only [Act.put, List.setIfInBounds_toArray, List.set_cons_zero, List.set_cons_succ]
                refine wpAnyH_take (i := 6) (oi := ?oi6g) (v := ?v6g) ?hi6g ?hs6g ?hf6g ?hr6g ?hQ6g ?hy6g ?hS6g ?h6g
                case hi6g => exact (by simp only [List.getElem?_toArray, List.getElem?_cons_succ, List.getElem?_cons_zero]; rfl)
                case hs6g => kernel_rfl
                case hf6g => kernel_rfl
                case hr6g => kernel_rfl
                case hQ6g => exact fun _ _ _ h => h
                case hy6g =>
                  refine Or.inl ⟨rfl, ?_⟩
                  intro W hSw
                  go_simp
                  try with_reducible rfl
                case hS6g => assumption
                try simp only [Act.put, List.setIfInBounds_toArray, List.set_cons_zero, List.set_cons_succ]
                refine wpAnyH_ready (rs := [2]) (by kernel_rfl) (by simp) ?_
                refine AllReadyH.cons (o := _) rfl (fun K hK => ?_) AllReadyH.nil
                go_simp
                refine (HRT.out Wg0 _ HDg.out).mono ?_
                rintro r Wg1 ⟨rfl, hbq⟩
                have HBg1 := Lib.hid (HDg.out.trans (hbq.mono HDg.out.size))
                clear hbq
                refine hK.out _ _ ((HCE.out _ (HBg1.out)).1) (fun hHeld => ?_)
                clear hK K
                try simp only [Act.put, List.setIfInBounds_toArray, List.set_cons_zero, List.set_cons_succ]
                refine wpAnyH_take (i := 7) (oi := ?oi7g) (v := (.bool false)) ?hi7g ?hs7g ?hf7g ?hr7g ?hQ7g ?hy7g ?hS7g ?h7g
                case hi7g => exact (by simp only [List.getElem?_toArray, List.getElem?_cons_succ, List.getElem?_cons_zero]; rfl)
                case hs7g => kernel_rfl
                case hf7g => kernel_rfl
                case hr7g => kernel_rfl
                case hQ7g => exact fun _ _ _ h => h
                case hy7g =>
                  refine Or.inl ⟨rfl, ?_⟩
                  intro W hSw
                  go_simp
                  try simp [hwr, h4]
                case hS7g => assumption
                try simp only [Act.put, List.setIfInBounds_toArray, List.set_cons_zero, List.set_cons_succ]
                refine wpAnyH_take (i := 8) (oi := ?oi8g) (v := ?v8g) ?hi8g ?hs8g ?hf8g ?hr8g ?hQ8g ?hy8g ?hS8g ?h8g
                case hi8g => exact (by simp only [List.getElem?_toArray, List.getElem?_cons_succ, List.getElem?_cons_zero]; rfl)
                case hs8g => kernel_rfl
                case hf8g => kernel_rfl
                case hr8g => kernel_rfl
                case hQ8g => exact fun _ _ _ h => h
                case hy8g =>
                  refine Or.inl ⟨rfl, ?_⟩
                  intro W hSw
                  go_simp
                  try with_reducible rfl
                case hS8g => assumption
                try simp only [Act.put, List.setIfInBounds_toArray, List.set_cons_zero, List.set_cons_succ]
                refine wpAnyH_take (i := 9) (oi := ?oi9g) (v := undef) ?hi9g ?hs9g ?hf9g ?hr9g ?hQ9g ?hy9g ?hS9g ?h9g
                case hi9g => exact (by simp only [List.getElem?_toArray, List.getElem?_cons_succ, List.getElem?_cons_zero]; rfl)
                case hs9g => kernel_rfl
                case hf9g => kernel_rfl
                case hr9g => kernel_rfl
                case hQ9g => exact fun _ _ _ h => h
                case hy9g =>
                  exact Or.inr ⟨rfl, rfl⟩
                case hS9g => assumption
                try simp only [Act.put, List.setIfInBounds_toArray, List.set_cons_zero, List.set_cons_succ]
                refine wpAnyH_take (i := 10) (oi := ?oi10g) (v := undef) ?hi10g ?hs10g ?hf10g ?hr10g ?hQ10g ?hy10g ?hS10g ?h10g
                case hi10g => exact (by simp only [List.getElem?_toArray, List.getElem?_cons_succ, List.getElem?_cons_zero]; rfl)
                case hs10g => kernel_rfl
                case hf10g => kernel_rfl
                case hr10g => kernel_rfl
                case hQ10g => exact fun _ _ _ h => h
                case hy10g =>
                  exact Or.inr ⟨rfl, rfl⟩
                case hS10g => assumption
                try simp only [Act.put, List.setIfInBounds_toArray, List.set_cons_zero, List.set_cons_succ]
                refine wpAnyH_take (i := 11) (oi := ?oi11g) (v := undef) ?hi11g ?hs11g ?hf11g ?hr11g ?hQ11g ?hy11g ?hS11g ?h11g
                case hi11g => exact (by simp only [List.getElem?_toArray, List.getElem?_cons_succ, List.getElem?_cons_zero]; rfl)
                case hs11g => kernel_rfl
                case hf11g => kernel_rfl
                case hr11g => kernel_rfl
                case hQ11g => exact fun _ _ _ h => h
                case hy11g =>
                  exact Or.inr ⟨rfl, rfl⟩
                case hS11g => assumption
                try simp only [Act.put, List.setIfInBounds_toArray, List.set_cons_zero, List.set_cons_succ]
                refine wpAnyH_take (i := 12) (oi := ?oi12g) (v := undef) ?hi12g ?hs12g ?hf12g ?hr12g ?hQ12g ?hy12g ?hS12g ?h12g
                case hi12g => exact (by simp only [List.getElem?_toArray, List.getElem?_cons_succ, List.getElem?_cons_zero]; rfl)
                case hs12g => kernel_rfl
                case hf12g => kernel_rfl
                case hr12g => kernel_rfl
                case hQ12g => exact fun _ _ _ h => h
                case hy12g =>
                  exact Or.inr ⟨rfl, rfl⟩
                case hS12g => assumption
                try simp only [Act.put, List.setIfInBounds_toArray, List.set_cons_zero, List.set_cons_succ]
                refine wpAnyH_take (i := 13) (oi := ?oi13g) (v := undef) ?hi13g ?hs13g ?hf13g ?hr13g ?hQ13g ?hy13g ?hS13g ?h13g
                case hi13g => exact (by simp only [List.getElem?_toArray, List.getElem?_cons_succ, List.getElem?_cons_zero]; rfl)
                case hs13g => kernel_rfl
                case hf13g => kernel_rfl
                case hr13g => kernel_rfl
                case hQ13g => exact fun _ _ _ h => h
                case hy13g =>
                  exact Or.inr ⟨rfl, rfl⟩
                case hS13g => assumption
                try simp only [Act.put, List.setIfInBounds_toArray, List.set_cons_zero, List.set_cons_succ]
                refine wpAnyH_take (i := 14) (oi := ?oi14g) (v := undef) ?hi14g ?hs14g ?hf14g ?hr14g ?hQ14g ?hy14g ?hS14g ?h14g
                case hi14g => exact (by simp only [List.getElem?_toArray, List.getElem?_cons_succ, List.getElem?_cons_zero]; rfl)
                case hs14g => kernel_rfl
                case hf14g => kernel_rfl
                case hr14g => kernel_rfl
                case hQ14g => exact fun _ _ _ h => h
                case hy14g =>
                  exact Or.inr ⟨rfl, rfl⟩
                case hS14g => assumption
                try simp only [Act.put, List.setIfInBounds_toArray, List.set_cons_zero, List.set_cons_succ]
                refine wpAnyH_take (i := 15) (oi := ?oi15g) (v := undef) ?hi15g ?hs15g ?hf15g ?hr15g ?hQ15g ?hy15g ?hS15g ?h15g
                case hi15g => exact (by simp only [List.getElem?_toArray, List.getElem?_cons_succ, List.getElem?_cons_zero]; rfl)
                case hs15g => kernel_rfl
                case hf15g => kernel_rfl
                case hr15g => kernel_rfl
                case hQ15g => exact fun _ _ _ h => h
                case hy15g =>
                  exact Or.inr ⟨rfl, rfl⟩
                case hS15g => assumption
                try simp only [Act.put, List.setIfInBounds_toArray, List.set_cons_zero, List.set_cons_succ]
                refine wpAnyH_take (i := 16) (oi := ?oi16g) (v := undef) ?hi16g ?hs16g ?hf16g ?hr16g ?hQ16g ?hy16g ?hS16g ?h16g
                case hi16g => exact (by simp only [List.getElem?_toArray, List.getElem?_cons_succ, List.getElem?_cons_zero]; rfl)
                case hs16g => kernel_rfl
                case hf16g => kernel_rfl
                case hr16g => kernel_rfl
                case hQ16g => exact fun _ _ _ h => h
                case hy16g =>
                  exact Or.inr ⟨rfl, rfl⟩
                case hS16g => assumption
                try simp only [Act.put, List.setIfInBounds_toArray, List.set_cons_zero, List.set_cons_succ]
                refine wpAnyH_take (i := 17) (oi := ?oi17g) (v := undef) ?hi17g ?hs17g ?hf17g ?hr17g ?hQ17g ?hy17g ?hS17g ?h17g
                case hi17g => exact (by simp only [List.getElem?_toArray, List.getElem?_cons_succ, List.getElem?_cons_zero]; rfl)
                case hs17g => kernel_rfl
                case hf17g => kernel_rfl
                case hr17g => kernel_rfl
                case hQ17g => exact fun _ _ _ h => h
                case hy17g =>
                  exact Or.inr ⟨rfl, rfl⟩
                case hS17g => assumption
                try simp only [Act.put, List.setIfInBounds_toArray, List.set_cons_zero, List.set_cons_succ]
                refine wpAnyH_take (i := 18) (oi := ?oi18g) (v := undef) ?hi18g ?hs18g ?hf18g ?hr18g ?hQ18g ?hy18g ?hS18g ?h18g
                case hi18g => exact (by simp only [List.getElem?_toArray, List.getElem?_cons_succ, List.getElem?_cons_zero]; rfl)
                case hs18g => kernel_rfl
                case hf18g => kernel_rfl
                case hr18g => kernel_rfl
                case hQ18g => exact fun _ _ _ h => h
                case hy18g =>
                  exact Or.inr ⟨rfl, rfl⟩
                case hS18g => assumption
                try simp only [Act.put, List.setIfInBounds_toArray, List.set_cons_zero, List.set_cons_succ]
                refine wpAnyH_take (i := 19) (oi := ?oi19g) (v := undef) ?hi19g ?hs19g ?hf19g ?hr19g ?hQ19g ?hy19g ?hS19g ?h19g
                case hi19g => exact (by simp only [List.getElem?_toArray, List.getElem?_cons_succ, List.getElem?_cons_zero]; rfl)
                case hs19g => kernel_rfl
                case hf19g => kernel_rfl
                case hr19g => kernel_rfl
                case hQ19g => exact fun _ _ _ h => h
                case hy19g =>
                  exact Or.inr ⟨rfl, rfl⟩
                case hS19g => assumption
                try simp only [Act.put, List.setIfInBounds_toArray, List.set_cons_zero, List.set_cons_succ]
                refine wpAnyH_take (i := 20) (oi := ?oi20g) (v := (.bool false)) ?hi20g ?hs20g ?hf20g ?hr20g ?hQ20g ?hy20g ?hS20g ?h20g
                case hi20g => exact (by simp only [List.getElem?_toArray, List.getElem?_cons_succ, List.getElem?_cons_zero]; rfl)
                case hs20g => kernel_rfl
                case hf20g => kernel_rfl
                case hr20g => kernel_rfl
                case hQ20g => exact fun _ _ _ h => h
                case hy20g =>
                  refine Or.inl ⟨rfl, ?_⟩
                  intro W hSw
                  go_simp
                  try with_reducible rfl
                case hS20g => assumption
                try simp only [Act.put, List.setIfInBounds_toArray, List.set_cons_zero, List.set_cons_succ]
                refine wpAnyH_done (by kernel_rfl) ?_ _
                go_wp2
                have HBZ := HBg1
                go_roundw
                case rel => exact ⟨_, 3, rfl, rfl, .inr (.inr ⟨rfl, rfl⟩), HBZ.out⟩
                case measure => simp [intOf] <;> omega
          · go_wp2
            go_ret
            exact ⟨rfl, HB0.out.trans (HB9.out.mono HB0.out.size)⟩
      · rw [if_pos ⟨he, h1⟩] at hres
        obtain rfl : res = 0 := by rw [hres]; split <;> exact if_neg (by omega)
        subst he
        clear hres
        go_enter Try.func13, Try.ntmps13
        go_upto_region 1 with (fail)
        rw [← H0.out]
        obtain ⟨c0, c1, c2, c3, c4⟩ := HCE.out w0 (Below.refl _ _)
        go_wp2_with fail
        refine (HW.out w0).mono ?_
        rintro r w1 ⟨rfl, hb1⟩
        have HB1 := Lib.hid hb1
        clear hb1 c0 c1 c2 c3 c4
        obtain ⟨c0, c1, c2, c3, c4⟩ := HCE.out w1 HB1.out
        go_wp2
        go_ret
        exact ⟨rfl, HB0.out.trans (HB1.out.mono HB0.out.size)⟩
    · rw [if_neg (fun h => h1 h.2)] at hres
      subst hres he
      go_enter Try.func13, Try.ntmps13
      go_upto_region 1 with (fail)
      rw [← H0.out]
      obtain ⟨c0, c1, c2, c3, c4⟩ := HCE.out w0 (Below.refl _ _)
      go_wp2_with fail
      refine (HW.out w0).mono ?_
      rintro r w1 ⟨rfl, hb1⟩
      have HB1 := Lib.hid hb1
      clear hb1 c0 c1 c2 c3 c4
      obtain ⟨c0, c1, c2, c3, c4⟩ := HCE.out w1 HB1.out
      go_wp2
      go_ret
      exact ⟨rfl, HB0.out.trans (HB1.out.mono HB0.out.size)⟩
  · have hef := isE_ne he
    rw [if_neg (fun h => he h.1)] at hres
    subst hres
    go_enter Try.func13, Try.ntmps13
    go_upto_region 1 with (fail)
    rw [← H0.out]
    obtain ⟨c0, c1, c2, c3, c4⟩ := HCE.out w0 (Below.refl _ _)
    go_wp2_with fail
    refine (HW.out w0).mono ?_
    rintro r w1 ⟨rfl, hb1⟩
    have HB1 := Lib.hid hb1
    clear hb1 c0 c1 c2 c3 c4
    obtain ⟨c0, c1, c2, c3, c4⟩ := HCE.out w1 HB1.out
    go_wp2
    go_ret
    exact ⟨rfl, HB0.out.trans (HB1.out.mono HB0.out.size)⟩
end Go.Proofs.Ytccabdhfnjlbdaa
