/- Timer: Due. -/
import Derived.Test.YtaoejkbockcneaaT9
namespace Go.Proofs.Ytaoejkbockcneaa
open Go.RowKit
set_option maxRecDepth 20000

theorem Ch.fresh {m B0 : Nat} {w W : World} {G : Nat} (h : Ch m B0 w W) (hB : B0 ≤ G) (hG : w.heap.size ≤ G) (i : Nat) (v : Value) : Ch m B0 w (W.setCell ⟨G, i, none⟩ v) :=
  ⟨h.below.setCell hB _, by rw [World.size_setCell]; exact h.size, fun g o hg ho => (Below.heap_setCell _ _ _ _ (by have := lt_of_block hg; show g ≠ G; omega)).trans (h.kept g o hg ho)⟩
theorem IsT.set35 {w : World} {B0 Q M tn G : Nat} {L : List It} {cc : Array Value} (h : IsT w B0 Q M tn L) (hG : w.heap[G]? = some (.cells cc 35 (0, 0))) (i : Nat) (v : Value) : IsT (w.setCell ⟨G, i, none⟩ v) B0 Q M tn L := by
  obtain ⟨v0, hp, D, cnt, h1, h2, h3, ⟨es, clock, hm, r⟩, h5⟩ := h
  have k : ∀ (g : Nat) (c : Array Value) (TT : Nat), w.heap[g]? = some (.cells c TT (0, 0)) → TT ≠ 35 → (w.setCell ⟨G, i, none⟩ v).heap[g]? = some (.cells c TT (0, 0)) := fun g c TT hg hT => (Below.heap_setCell _ _ _ _ (type_ne hg hG hT)).trans hg
  refine ⟨v0, hp, D, cnt, ⟨k _ _ 103 h1.row (by decide), ⟨own_after h1.ln.own fun g hg => ?_, fun j e he => k _ _ 106 (h1.ln.its j e he) (by decide), h1.ln.nd, h1.ln.lo⟩, h1.lo⟩, h2, h3, ⟨es, clock, ?_, r⟩, h5⟩
  · obtain ⟨cur, hc⟩ := own_type h1.ln.own hg
    rw [k g cur 104 hc (by decide), hc]
  · exact (Below.heap_setCell _ _ _ _ (fun e => by
      have e : M = G := e
      rw [e, hG] at hm
      cases hm)).trans hm
theorem set3 {w W : World} {B0 Q M tn G : Nat} {L : List It} {x : Int} {k a : Int} {u0 u1 u2 : Value} (h : IsT W B0 Q M tn L) (hc : Ch 2 B0 w W) (hB : B0 ≤ G ∧ w.heap.size ≤ G) (hG : W.heap[G]? = some (.cells #[u0, u1, u2] 35 (0, 0))) :
    (((W.setCell ⟨G, 0, none⟩ (.int .i64 k)).setCell ⟨G, 1, none⟩ (.int .u32 x)).setCell ⟨G, 2, none⟩ (.int .i64 a)).cell? ⟨G, 0, none⟩ = some (.int .i64 k) ∧ (((W.setCell ⟨G, 0, none⟩ (.int .i64 k)).setCell ⟨G, 1, none⟩ (.int .u32 x)).setCell ⟨G, 2, none⟩ (.int .i64 a)).cell? ⟨G, 1, none⟩ = some (.int .u32 x) ∧ (((W.setCell ⟨G, 0, none⟩ (.int .i64 k)).setCell ⟨G, 1, none⟩ (.int .u32 x)).setCell ⟨G, 2, none⟩ (.int .i64 a)).cell? ⟨G, 2, none⟩ = some (.int .i64 a) ∧
      IsT (((W.setCell ⟨G, 0, none⟩ (.int .i64 k)).setCell ⟨G, 1, none⟩ (.int .u32 x)).setCell ⟨G, 2, none⟩ (.int .i64 a)) B0 Q M tn L ∧ Ch 2 B0 w (((W.setCell ⟨G, 0, none⟩ (.int .i64 k)).setCell ⟨G, 1, none⟩ (.int .u32 x)).setCell ⟨G, 2, none⟩ (.int .i64 a)) := by
  have g1 := heap_setCell_same W G 0 _ 35 (.int .i64 k) hG
  have g2 := heap_setCell_same _ G 1 _ 35 (.int .u32 x) g1
  have g3 := heap_setCell_same _ G 2 _ 35 (.int .i64 a) g2
  refine ⟨by simpa using cell_of_row _ G 0 _ _ _ g3, by simpa using cell_of_row _ G 1 _ _ _ g3, by simpa using cell_of_row _ G 2 _ _ _ g3, ((h.set35 hG _ _).set35 g1 _ _).set35 g2 _ _, ((hc.fresh hB.1 hB.2 _ _).fresh hB.1 hB.2 _ _).fresh hB.1 hB.2 _ _⟩

theorem lt_late {e y : It} {now : Int} (h : lt y e = false) (he : now < e.2.2.2.1) : now < y.2.2.2.1 := by
  rw [lt_iff'] at h
  omega
theorem IsT.lo {w : World} {B0 Q M tn : Nat} {L : List It} (h : IsT w B0 Q M tn L) : B0 ≤ w.heap.size := by
  obtain ⟨v0, hp, D, cnt, h1, _⟩ := h
  exact Nat.le_trans h1.lo (Nat.le_of_lt (lt_of_block h1.row))
theorem IsT.wf {w : World} {B0 Q M tn : Nat} {L : List It} (h : IsT w B0 Q M tn L) {e : It} (he : e ∈ L) : wfN e.2.1 e.2.2.1 := by
  obtain ⟨v0, hp, D, cnt, _, _, _, _, _, _, _, _, h9, _⟩ := h
  exact (h9 e he).1

set_option linter.unusedSimpArgs false in
set_option maxHeartbeats 8000000 in
theorem due_any {B0 Q M tn : Nat} {L : List It} (now : Int) (w : World) (h : IsT w B0 Q M tn L) (hl : L.length ≤ 1000) :
    Calls Try.prog 17 #[.pointer (some ⟨Q, 0, none⟩), .int .i64 now] w (DuP B0 Q M tn L now w) := by
  have hB := h.lo
  obtain ⟨w0, hw0⟩ : ∃ w0, w0 = w.alloc (.cells #[.int .i64 0, .int .u32 0, .int .i64 0] 35) := ⟨_, rfl⟩
  obtain ⟨G, hG⟩ : ∃ G, G = w.heap.size := ⟨_, rfl⟩
  have hb0 : Below w.heap.size w w0 := by rw [hw0]; exact (Below.refl _ _).alloc (Nat.le_refl _) _
  have hg0 : w0.heap[G]? = some (.cells #[.int .i64 0, .int .u32 0, .int .i64 0] 35 (0, 0)) := by rw [hw0, hG]; exact heap_alloc_new w _
  have HI0 := Lib.hid (h.after hb0)
  have HC0 : Hid (Ch 2 B0 w w0) := Ch.of_below hB hb0
  have HG0 := Lib.hid hg0
  have HGB : Hid (B0 ≤ G ∧ w.heap.size ≤ G) := by simp only [Hid]; omega
  have H0 := Lib.hid hw0
  have HG := Lib.hid hG
  clear hb0 hg0 hw0 h
  by_cases hL : L = []
  · subst hL
    have HNX := Lib.hid (next_none w0 HI0.out)
    have HLATE : Hid (∀ e ∈ ([] : List It), now < e.2.2.2.1) := fun e he => by cases he
    go_enter Try.func17, Try.ntmps17
    go_upto_region 1 with (fail)
    rw [← H0.out, ← hG]
    clear hG
    go_wp2_with fail
    refine HNX.out.mono ?_
    rintro r w1 ⟨rfl, hb1⟩
    obtain ⟨w2, hw2⟩ : ∃ w2, w2 = w1.alloc (.cells #[.int .i64 0, .int .u32 0, .int .i64 0] 35) := ⟨_, rfl⟩
    have hb2 : Below w1.heap.size w1 w2 := by rw [hw2]; exact (Below.refl _ _).alloc (Nat.le_refl _) _
    have HI2 := Lib.hid ((HI0.out.after hb1).after hb2)
    have HC2 : Hid (Ch 2 B0 w w2) := (HC0.out.trans (Ch.of_below HI0.out.lo hb1)).trans (Ch.of_below (Nat.le_trans HI0.out.lo hb1.size) hb2)
    have hg2 : w2.heap[G]? = some (.cells #[.int .i64 0, .int .u32 0, .int .i64 0] 35 (0, 0)) := (hb2.block G (Nat.lt_of_lt_of_le (lt_of_block HG0.out) hb1.size)).trans ((hb1.block G (lt_of_block HG0.out)).trans HG0.out)
    have HG2 := Lib.hid hg2
    have g0 := cell_of_row w2 G 0 _ _ _ hg2
    have g1 := cell_of_row w2 G 1 _ _ _ hg2
    have g2 := cell_of_row w2 G 2 _ _ _ hg2
    have gf : ∀ i, w2.frozen? ⟨G, i, none⟩ = false := fun i => frozen_of_row w2 _ i _ _ hg2
    simp at g0 g1 g2
    have H2 := Lib.hid hw2
    clear hb1 hb2 hg2 hw2
    go_upto_region 2 with (fail)
    rw [← H2.out]
    have hgb := HGB.out
    have HW3 := Lib.hid (set3 (k := 0) (x := 0) (a := 0) HI2.out HC2.out hgb HG2.out)
    have z0 := HW3.out.1
    have z1 := HW3.out.2.1
    have z2 := HW3.out.2.2.1
    go_wp2
    exact bodyPost_ret (v := .tuple #[tV 0 0 0, .bool false]) (by simp [results, Try.results17, go_sem, z0, z1, z2]) rfl ⟨_, _, _, rfl, .inl ⟨rfl, rfl, rfl, HLATE.out⟩, HW3.out.2.2.2.1, HW3.out.2.2.2.2⟩
  · have hl0 : 0 < L.length := List.length_pos_iff.2 hL
    have HNX := Lib.hid (next_some w0 HI0.out hl0)
    clear hL hl0
    go_enter Try.func17, Try.ntmps17
    go_upto_region 1 with (fail)
    rw [← H0.out, ← hG]
    clear hG
    go_wp2_with fail
    refine HNX.out.mono ?_
    rintro r w1 ⟨⟨e, he, hmin, rfl⟩, hb1⟩
    obtain ⟨G6, hG6⟩ : ∃ G6, G6 = w1.heap.size := ⟨_, rfl⟩
    obtain ⟨w2, hw2⟩ : ∃ w2, w2 = w1.alloc (.cells #[.int .i64 e.2.1, .int .u32 (e.2.2.1 : Int), .int .i64 e.2.2.2.1] 35) := ⟨_, rfl⟩
    have hb2 : Below w1.heap.size w1 w2 := by rw [hw2]; exact (Below.refl _ _).alloc (Nat.le_refl _) _
    have HI2 := Lib.hid ((HI0.out.after hb1).after hb2)
    have HC2 : Hid (Ch 2 B0 w w2) := (HC0.out.trans (Ch.of_below HI0.out.lo hb1)).trans (Ch.of_below (Nat.le_trans HI0.out.lo hb1.size) hb2)
    have hg2 : w2.heap[G]? = some (.cells #[.int .i64 0, .int .u32 0, .int .i64 0] 35 (0, 0)) := (hb2.block G (Nat.lt_of_lt_of_le (lt_of_block HG0.out) hb1.size)).trans ((hb1.block G (lt_of_block HG0.out)).trans HG0.out)
    have hx2 : w2.heap[G6]? = some (.cells #[.int .i64 e.2.1, .int .u32 (e.2.2.1 : Int), .int .i64 e.2.2.2.1] 35 (0, 0)) := by rw [hw2, hG6]; exact heap_alloc_new w1 _
    have HG2 := Lib.hid hg2
    have HX2 := Lib.hid hx2
    have HE := Lib.hid (And.intro he hmin)
    have x0 := cell_of_row w2 G6 0 _ _ _ hx2
    have x1 := cell_of_row w2 G6 1 _ _ _ hx2
    have x2 := cell_of_row w2 G6 2 _ _ _ hx2
    have xf : ∀ i, w2.frozen? ⟨G6, i, none⟩ = false := fun i => frozen_of_row w2 _ i _ _ hx2
    simp at x0 x1 x2
    have H2 := Lib.hid hw2
    have HCL := Lib.hid (clear_any e.2.1 e.2.2.1 w2 HI2.out hl (HI2.out.wf he))
    clear hb1 he hmin hw2
    go_upto_region 2 with (fail)
    rw [← H2.out, ← hG6]
    clear hG6 hb2
    by_cases hdue : e.2.2.2.1 ≤ now
    · have hnd : ¬ e.2.2.2.1 > now := by omega
      go_wp2_with fail
      refine HCL.out.mono ?_
      rintro r w3 ⟨⟨b3, rfl, _⟩, hI3, hC3⟩
      have HI3 := Lib.hid hI3
      have HC3 : Hid (Ch 2 B0 w w3) := HC2.out.trans hC3
      have hg3 := hC3.kept G _ HG2.out (by simp [okT])
      have hx3 := hC3.kept G6 _ HX2.out (by simp [okT])
      have HG3 := Lib.hid hg3
      have g0 := cell_of_row w3 G 0 _ _ _ hg3
      have g1 := cell_of_row w3 G 1 _ _ _ hg3
      have g2 := cell_of_row w3 G 2 _ _ _ hg3
      have gf : ∀ i, w3.frozen? ⟨G, i, none⟩ = false := fun i => frozen_of_row w3 _ i _ _ hg3
      simp at g0 g1 g2
      have y0 := cell_of_row w3 G6 0 _ _ _ hx3
      have y1 := cell_of_row w3 G6 1 _ _ _ hx3
      have y2 := cell_of_row w3 G6 2 _ _ _ hx3
      have yf : ∀ i, w3.frozen? ⟨G6, i, none⟩ = false := fun i => frozen_of_row w3 _ i _ _ hx3
      simp at y0 y1 y2
      clear hI3 hC3 hg3 hx3 x0 x1 x2 xf hg2 hx2
      have HW3 := Lib.hid (set3 (k := e.2.1) (x := (e.2.2.1 : Int)) (a := e.2.2.2.1) HI3.out HC3.out HGB.out HG3.out)
      have z0 := HW3.out.1
      have z1 := HW3.out.2.1
      have z2 := HW3.out.2.2.1
      go_wp2
      exact bodyPost_ret (v := .tuple #[tV e.2.1 e.2.2.1 e.2.2.2.1, .bool true]) (by simp [results, Try.results17, go_sem, z0, z1, z2]) rfl ⟨_, _, _, rfl, .inr ⟨rfl, e, HE.out.1, HE.out.2, hdue, rfl, rfl⟩, HW3.out.2.2.2.1, HW3.out.2.2.2.2⟩
    · have hnd : e.2.2.2.1 > now := by omega
      have HLATE : Hid (∀ y ∈ L, now < y.2.2.2.1) := fun y hy => lt_late (HE.out.2 y hy) (by omega)
      have g0 := cell_of_row w2 G 0 _ _ _ hg2
      have g1 := cell_of_row w2 G 1 _ _ _ hg2
      have g2 := cell_of_row w2 G 2 _ _ _ hg2
      have gf : ∀ i, w2.frozen? ⟨G, i, none⟩ = false := fun i => frozen_of_row w2 _ i _ _ hg2
      simp at g0 g1 g2
      clear hg2 hx2
      have hgb := HGB.out
      have HW3 := Lib.hid (set3 (k := 0) (x := 0) (a := 0) HI2.out HC2.out hgb HG2.out)
      have z0 := HW3.out.1
      have z1 := HW3.out.2.1
      have z2 := HW3.out.2.2.1
      go_wp2
      exact bodyPost_ret (v := .tuple #[tV 0 0 0, .bool false]) (by simp [results, Try.results17, go_sem, z0, z1, z2]) rfl ⟨_, _, _, rfl, .inl ⟨rfl, rfl, rfl, HLATE.out⟩, HW3.out.2.2.2.1, HW3.out.2.2.2.2⟩
end Go.Proofs.Ytaoejkbockcneaa
