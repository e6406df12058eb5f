/- Outbox: Gone, Send. -/
import Derived.Test.YtbahifbhjdnacaaO5
namespace Go.Proofs.Ytbahifbhjdnacaa
open Go.RowKit
set_option maxRecDepth 20000
set_option linter.unusedVariables false
set_option linter.unusedSimpArgs false

def goneQ (fl n : Int) : Int := fl - min (max n 0) fl
set_option maxHeartbeats 2000000 in
theorem gone_any {H : Nat} {fl out ask rate : Int} (n : Int) (w : World) (h : Fw w H fl out ask rate) :
    Calls Try.prog 10 #[.pointer (some ⟨H, 0, none⟩), .int .i64 n] w fun r w' => r = .returned (.int .i64 (goneQ fl n)) ∧ Fw w' H (goneQ fl n) out ask rate ∧ Kp (fun k => k = H) w w' := by
  obtain ⟨g, hg⟩ : ∃ g, g = goneQ fl n := ⟨_, rfl⟩
  rw [← hg]
  have hg0 : 0 ≤ g ∧ g ≤ out := by have := h.fl0; have := h.flo; simp only [goneQ] at hg; omega
  obtain ⟨w2, hw2⟩ : ∃ w2, w2 = w.drew := ⟨_, rfl⟩
  have hb2 : Below w.heap.size w w2 := by rw [hw2]; exact (Below.refl _ _).drew
  have h2 := h.below hb2
  have HF := Lib.hid (h2.setFl g hg0.1 hg0.2)
  have HK := Lib.hid ((Kp.of_below (fun k => k = H) hb2).trans (Kp.setCell w2 ⟨H, 0, none⟩ (.int .i64 g)) (fun i _ e => e))
  have h0 := h.cell.1
  have h02 := h2.cell.1
  have zf : ∀ i, w2.frozen? ⟨H, i, none⟩ = false := fun i => frozen_of_row w2 _ i _ _ h2.row
  have hfl := h.fl0
  have hfo := h.flo
  have hou := h.ou
  have HW2 := Lib.hid hw2
  clear h h2 hb2 hw2
  unfold goneQ at hg
  by_cases h1 : n < 0
  · have hgf : fl = g := by omega
    clear hg
    subst hgf
    go_enter Try.func10, Try.ntmps10
    go_upto_region 1 with (fail)
    go_still_tail 17, (by kernel_rfl)
    change wpList _ _ _ _ _ w.drew
    rw [← HW2.out]
    go_wp2_with fail
    all_goals
      go_ret
      exact ⟨rfl, HF.out, HK.out⟩
  by_cases h3 : fl < n
  · have hgf : g = 0 := by omega
    clear hg
    subst hgf
    go_enter Try.func10, Try.ntmps10
    go_upto_region 1 with (fail)
    go_still_tail 17, (by kernel_rfl)
    change wpList _ _ _ _ _ w.drew
    rw [← HW2.out]
    go_wp2_with fail
    all_goals
      go_ret
      exact ⟨rfl, HF.out, HK.out⟩
  · have hgf : g = fl - n := by omega
    clear hg
    subst hgf
    go_enter Try.func10, Try.ntmps10
    go_upto_region 1 with (fail)
    go_still_tail 17, (by kernel_rfl)
    change wpList _ _ _ _ _ w.drew
    rw [← HW2.out]
    go_wp2_with fail
    all_goals
      go_ret
      exact ⟨rfl, HF.out, HK.out⟩
end Go.Proofs.Ytbahifbhjdnacaa
