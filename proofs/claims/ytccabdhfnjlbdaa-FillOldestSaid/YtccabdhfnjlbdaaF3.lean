/- Plan: a mode of the document as the program's; its window, the program's and the document's; the document's Wrong of a mode. -/
import Derived.Test.YtccabdhfnjlbdaaF2
namespace Go.Proofs.Ytccabdhfnjlbdaa
open Go.RowKit
set_option maxRecDepth 20000

theorem wrongM_nil (k b s c e : Int) : (wrongM k b s c e).isEmpty = (inB 1 k 4 && inB 0 b 10000 && inB 0 s 10000 && (inB 0 c 10000 && decide (b ≤ c)) && inB 1 e 1099511627776) := by
  unfold wrongM
  generalize inB 1 k 4 = r1
  generalize inB 0 b 10000 = r2
  generalize inB 0 s 10000 = r3
  generalize (inB 0 c 10000 && decide (b ≤ c)) = r4
  generalize inB 1 e 1099511627776 = r5
  cases r1 <;> cases r2 <;> cases r3 <;> cases r4 <;> cases r5 <;> rfl
theorem wrongM_bounds {k b s c e : Int} (h : (wrongM k b s c e).isEmpty = true) : (1 ≤ k ∧ k ≤ 4) ∧ (0 ≤ b ∧ b ≤ 10000) ∧ (0 ≤ s ∧ s ≤ 10000) ∧ (0 ≤ c ∧ c ≤ 10000) ∧ b ≤ c ∧ 1 ≤ e ∧ e ≤ 1099511627776 := by
  rw [wrongM_nil] at h
  simp only [inB, Bool.and_eq_true, decide_eq_true_eq] at h
  omega

theorem wr64 {x : Int} (h1 : -9223372036854775808 ≤ x) (h2 : x ≤ 9223372036854775807) : wrap64 x = x := by
  unfold wrap64
  omega

/-- The window of a mode behind a wait. -/
def win (k b s c e wait : Int) : Int := if (wrongM k b s c e).isEmpty then min (b + s * min (max wait 0 / e) 10000) c else 0

set_option maxHeartbeats 2000000 in
theorem window_any (k b s c e x : Int) (w : World) (hx : -9223372036854775808 ≤ x ∧ x ≤ 9223372036854775807) : Calls Try.prog 20 #[mV k b s c e, .int .i64 x] w fun r w' => r = .returned (.int .i64 (win k b s c e x)) ∧ Below w.heap.size w w' := by
  obtain ⟨w0, hw0⟩ : ∃ w0, w0 = w.alloc (.cells (mCells k b s c e) 35) := ⟨_, rfl⟩
  have hb0 : Below w.heap.size w w0 := by rw [hw0]; exact (Below.refl _ _).alloc (Nat.le_refl _) _
  have hp0 : w0.heap[w.heap.size]? = some (.cells (mCells k b s c e) 35 (0, 0)) := by rw [hw0]; exact heap_alloc_new w _
  have HCE : Hid (∀ W, Below w0.heap.size w0 W → W.cell? ⟨w.heap.size, 0, none⟩ = some (.int .i64 k) ∧ W.cell? ⟨w.heap.size, 1, none⟩ = some (.int .i64 b) ∧ W.cell? ⟨w.heap.size, 2, none⟩ = some (.int .i64 s) ∧ W.cell? ⟨w.heap.size, 3, none⟩ = some (.int .i64 c) ∧ W.cell? ⟨w.heap.size, 4, none⟩ = some (.int .i64 e)) := fun W hW => by
    have e2 := (hW.block _ (lt_of_block hp0)).trans hp0
    exact ⟨cell_of_row W _ 0 _ _ _ e2, cell_of_row W _ 1 _ _ _ e2, cell_of_row W _ 2 _ _ _ e2, cell_of_row W _ 3 _ _ _ e2, cell_of_row W _ 4 _ _ _ e2⟩
  obtain ⟨mw, hmw⟩ : ∃ mw, mw = wrongM k b s c e := ⟨_, rfl⟩
  have HW : Hid (∀ W, Calls Try.prog 23 #[mV k b s c e] W fun r w' => r = .returned (sV mw) ∧ Below W.heap.size W w') := fun W => by rw [hmw]; exact wrongM_any k b s c e W
  have H0 := Lib.hid hw0
  have HB0 := Lib.hid hb0
  obtain ⟨c0, c1, c2, c3, c4⟩ := HCE.out w0 (Below.refl _ _)
  obtain ⟨res, hres⟩ : ∃ res, res = win k b s c e x := ⟨_, rfl⟩
  rw [← hres]
  rw [win, ← hmw] at hres
  clear hw0 hb0 hp0
  by_cases he : mw.isEmpty = true
  · have hbd := wrongM_bounds (hmw ▸ he)
    rw [if_pos he] at hres
    have HBD := Lib.hid hbd
    have HR := Lib.hid hres
    clear hmw hres
    obtain ⟨-, ⟨hb1, hb2⟩, ⟨hs1, hs2⟩, ⟨hc1, hc2⟩, hbc, he1, he2⟩ := hbd
    obtain ⟨m, hm⟩ : ∃ m, m = max x 0 := ⟨_, rfl⟩
    have hm1 : (if x < 0 then 0 else x) = m := by rw [hm]; split <;> omega
    have hQ0 : 0 ≤ m / e := Int.ediv_nonneg (by omega) (by omega)
    obtain ⟨q, hq⟩ : ∃ q, q = min (m / e) 10000 := ⟨_, rfl⟩
    have hq1 : (if 10000 < m / e then 10000 else m / e) = q := by rw [hq]; split <;> omega
    have hqb : 0 ≤ q ∧ q ≤ 10000 := by omega
    obtain ⟨p, hp⟩ : ∃ p, p = s * q := ⟨_, rfl⟩
    have hp1 : 0 ≤ p := by rw [hp]; exact Int.mul_nonneg hs1 hqb.1
    have hp2 : p ≤ 10000 * 10000 := by
      rw [hp]
      calc s * q ≤ 10000 * q := Int.mul_le_mul_of_nonneg_right hs2 hqb.1
        _ ≤ 10000 * 10000 := by omega
    have hp3 : wrap64 (s * q) = p := by rw [← hp]; exact wr64 (by omega) (by omega)
    have hp4 : wrap64 (b + p) = b + p := wr64 (by omega) (by omega)
    have hr : (if c < b + p then c else b + p) = res := by
      rw [HR.out, ← hm, ← hq, ← hp]
      split <;> omega
    clear hq hm hp
    go_enter Try.func20, Try.ntmps20
    go_upto_region 1 with (fail)
    rw [← H0.out]
    go_wp2_with fail
    refine (HW.out w0).mono ?_
    rintro r w1 ⟨rfl, hb1'⟩
    have HB1 := Lib.hid hb1'
    clear c0 c1 c2 c3 c4 hb1'
    obtain ⟨c0, c1, c2, c3, c4⟩ := HCE.out w1 HB1.out
    clear HBD HR HW
    go_wp2
    go_ret
    exact ⟨rfl, HB0.out.trans (HB1.out.mono HB0.out.size)⟩
  · have hef : mw.isEmpty = false := by simpa using he
    rw [if_neg he] at hres
    subst hres
    clear hmw
    go_enter Try.func20, Try.ntmps20
    go_upto_region 1 with (fail)
    rw [← H0.out]
    go_wp2_with fail
    refine (HW.out w0).mono ?_
    rintro r w1 ⟨rfl, hb1'⟩
    go_wp2
    go_ret
    exact ⟨rfl, HB0.out.trans (hb1'.mono HB0.out.size)⟩
end Go.Proofs.Ytccabdhfnjlbdaa
