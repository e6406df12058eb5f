/- Queue: the closures of a mode and of a player; Of. -/
import Derived.Test.YtemjmnpclknfaaaGreatU2
namespace Go.Proofs.YtemjmnpclknfaaaGreat.T
open Go.RowKit
open Go.Proofs.YtemjmnpclknfaaaGreat.P (Sl un)
set_option maxRecDepth 20000
set_option linter.unusedVariables false
set_option linter.unusedSimpArgs false

theorem mode_cl (id : Nat) (md rt sn m : Int) (s : Sl) (K : Nat) (w : World) (hKl : K < w.heap.size) (hK : w.cell? ⟨K, 0, none⟩ = some (.int .i64 m)) :
    Calls Tryz.prog 61 #[.agg (mC id md s rt sn), .pointer (some ⟨K, 0, none⟩)] w fun r w' => r = .returned (.bool (decide (md = m))) ∧ Below w.heap.size w w' := by
  obtain ⟨G, hG⟩ : ∃ G, G = w.heap.size := ⟨_, rfl⟩
  obtain ⟨w0, hw0⟩ : ∃ W, W = w.alloc (.cells (mC id md s rt sn) 39) := ⟨_, rfl⟩
  have hq0 : w0.heap[G]? = some (.cells (mC id md s rt sn) 39 (0, 0)) := by rw [hw0, hG]; exact heap_alloc_new w _
  have hb0 : Below w.heap.size w w0 := by rw [hw0]; exact (Below.refl _ _).alloc (Nat.le_refl _) _
  have k0 := (hb0.cell (p := ⟨K, 0, none⟩) hKl).trans hK
  have z0 := cell_of_row w0 G 0 _ _ _ hq0
  have z1 := cell_of_row w0 G 1 _ _ _ hq0
  have z2 := cell_of_row w0 G 2 _ _ _ hq0
  have z3 := cell_of_row w0 G 3 _ _ _ hq0
  have z4 := cell_of_row w0 G 4 _ _ _ hq0
  simp at z0 z1 z2 z3 z4
  have H0 := Lib.hid hw0
  have HB0 := Lib.hid hb0
  have HG := Lib.hid hG
  by_cases hm : md = m
  · rw [decide_eq_true hm]
    subst hm
    clear hw0 hq0 hb0 hG
    go_enter Tryz.func61, Tryz.ntmps61
    go_upto_region 1 with (fail)
    rw [← H0.out, ← HG.out]
    go_wp2
    go_ret
    exact ⟨by simp, HB0.out⟩
  · rw [decide_eq_false hm]
    clear hw0 hq0 hb0 hG
    go_enter Tryz.func61, Tryz.ntmps61
    go_upto_region 1 with (fail)
    rw [← H0.out, ← HG.out]
    go_wp2
    go_ret
    exact ⟨by simp [hm], HB0.out⟩
set_option maxHeartbeats 2000000 in
theorem of_cl (R : Nat) (vi : Value) (id p : Nat) (md rt sn : Int) (s : Sl) (l : List Nat) (K : Nat) (w : World) (hKl : K < w.heap.size) (hK : w.cell? ⟨K, 0, none⟩ = some (.int .u32 (p : Int))) (hf : P.Fl w R vi s l) (hl : l.length ≤ 1000) :
    Calls Tryz.prog 41 #[.agg (mC id md s rt sn), .pointer (some ⟨K, 0, none⟩)] w fun r w' => r = .returned (.bool (decide (p ∈ l))) ∧ Below w.heap.size w w' := by
  obtain ⟨G, hG⟩ : ∃ G, G = w.heap.size := ⟨_, rfl⟩
  obtain ⟨w0, hw0⟩ : ∃ W, W = w.alloc (.cells (mC id md s rt sn) 39) := ⟨_, rfl⟩
  have hq0 : w0.heap[G]? = some (.cells (mC id md s rt sn) 39 (0, 0)) := by rw [hw0, hG]; exact heap_alloc_new w _
  have hb0 : Below w.heap.size w w0 := by rw [hw0]; exact (Below.refl _ _).alloc (Nat.le_refl _) _
  have k0 := (hb0.cell (p := ⟨K, 0, none⟩) hKl).trans hK
  have z0 := cell_of_row w0 G 0 _ _ _ hq0
  have z1 := cell_of_row w0 G 1 _ _ _ hq0
  have z2 := cell_of_row w0 G 2 _ _ _ hq0
  have z3 := cell_of_row w0 G 3 _ _ _ hq0
  have z4 := cell_of_row w0 G 4 _ _ _ hq0
  simp at z0 z1 z2 z3 z4
  have HC := Lib.hid (P.contains_any s.a s.n s.c l p w0 hf.1 (hf.after hb0).rn (by have := hf.1; omega))
  have H0 := Lib.hid hw0
  have HB0 := Lib.hid hb0
  have HG := Lib.hid hG
  clear hw0 hq0 hb0 hG hf hl
  go_enter Tryz.func41, Tryz.ntmps41
  go_upto_region 1 with (fail)
  rw [← H0.out, ← HG.out]
  go_wp2_with fail
  refine HC.out.mono ?_
  rintro r w1 ⟨rfl, hb1⟩
  go_wp2
  go_ret
  exact ⟨rfl, HB0.out.trans (hb1.mono HB0.out.size)⟩
/-- The ticket in which a player is. -/
def hdT : List Tk → Nat
  | [] => 0
  | e :: _ => e.id
def ofT (L : List Tk) (p : Nat) : Nat := hdT (L.filter (fun e => decide (p ∈ e.mem)))
set_option maxHeartbeats 4000000 in
theorem qof_any (B R : Nat) (mo : Int) (vi : Value) (ms : Sl) (L : List Tk) (p : Nat) (w : World) (h : Bq w B R mo vi ms L) (hl : L.length ≤ 1000) (hm : ∀ e ∈ L, e.mem.length ≤ 1000) :
    Calls Tryz.prog 16 #[qp B, .int .u32 (p : Int)] w fun r w' => r = .returned (.int .u32 (ofT L p : Int)) ∧ Below w.heap.size w w' := by
  obtain ⟨K, hKK⟩ : ∃ G, G = w.heap.size := ⟨_, rfl⟩
  obtain ⟨w0, hw0⟩ : ∃ W, W = w.alloc (.cells #[.int .u32 (p : Int)] 33) := ⟨_, rfl⟩
  have hq0 : w0.heap[K]? = some (.cells #[.int .u32 (p : Int)] 33 (0, 0)) := by rw [hw0, hKK]; exact heap_alloc_new w _
  have hb0 : Below w.heap.size w w0 := by rw [hw0]; exact (Below.refl _ _).alloc (Nat.le_refl _) _
  have HT := Lib.hid (those_74 B R mo vi ms L K (fun e => decide (p ∈ e.mem)) w0 (h.after hb0) hl (fun W e s hW he hf => of_cl R vi e.id p e.md e.rt e.sn s e.mem K W (Nat.lt_of_lt_of_le (lt_of_block hq0) hW.size) (cell_of_row W K 0 _ _ _ ((hW.block _ (lt_of_block hq0)).trans hq0)) hf (hm e he)))
  have H0 := Lib.hid hw0
  have HB0 := Lib.hid hb0
  have HK := Lib.hid hKK
  obtain ⟨F, hF⟩ : ∃ F, F = L.filter (fun e => decide (p ∈ e.mem)) := ⟨_, rfl⟩
  have ho : ofT L p = hdT F := by rw [hF]; rfl
  rw [← hF] at HT
  rw [ho]
  clear hw0 hq0 hb0 hKK h hl hm ho hF
  go_enter Tryz.func16, Tryz.ntmps16
  go_upto_region 1 with (fail)
  rw [← H0.out, ← HK.out]
  go_wp2_with fail
  refine HT.out.mono ?_
  rintro r w1 ⟨A, n, c, rfl, hp, hb1⟩
  have HB1 := Lib.hid (HB0.out.trans (hb1.mono HB0.out.size))
  have hn := hp.len
  cases F with
  | nil =>
    have hn0 : n = 0 := hn
    subst hn0
    clear hp hb1 hn
    go_wp2
    go_ret
    exact ⟨rfl, HB1.out⟩
  | cons e F =>
    obtain ⟨lf, hlf, how, _⟩ := hp
    have hn0 : n = F.length + 1 := by simpa using hn
    have hnn : ¬ ((n : Int) = 0) := by omega
    have hpos : (0 : Int) < (n : Int) := by omega
    have h0 : (mz (lf.map tk))[0]? = some (.int .u32 (e.id : Int)) := by
      cases lf with
      | nil => cases hlf
      | cons x lf =>
        simp only [List.map_cons, List.cons.injEq] at hlf
        simp [mz, tk, hlf.1]
    rcases how.2 with ⟨_, h00⟩ | ⟨g, cap, cur, e1, _, _⟩
    · omega
    · injection e1 with e1 _ _
      subst e1
      have d0 := how.cells (g := g) rfl 0 _ h0
      rw [Go.WideShapes.add_plain, Nat.zero_add] at d0
      clear how hlf h0 hb1 hn
      go_wp2
      go_ret
      exact ⟨rfl, HB1.out⟩
end Go.Proofs.YtemjmnpclknfaaaGreat.T
