/- Board: the law's awake. -/
import Derived.Test.YtaoejkbockcneaaU3
namespace Go.Proofs.Ytaoejkbockcneaa.Bd
open Go.RowKit
set_option maxRecDepth 20000

set_option maxHeartbeats 4000000 in
theorem awake_any (w : World) : Calls Try.prog 38 #[] w fun r w' => r = .returned (.bool true) ∧ Below w.heap.size w w' := by
  obtain ⟨L, hL⟩ : ∃ L, L = w.heap.size + 1 := ⟨_, rfl⟩
  obtain ⟨M, hM⟩ : ∃ M, M = w.heap.size := ⟨_, rfl⟩
  have HN : Hid (Calls Try.prog 28 #[] w fun e w' => e = .returned (.pointer (some ⟨L, 0, none⟩)) ∧ IsB w' L M 0 (Dn 7 0 0) ∧ Below w.heap.size w w') := by
    rw [hL, hM, Dn_zero]
    exact new_any w
  have H1 : Hid (∀ W, IsB W L M 0 (Dn 7 0 0) → Calls Try.prog 32 #[.pointer (some ⟨L, 0, none⟩), .int .u32 7, .int .i64 3] W fun r w' => r = .returned (.tuple #[]) ∧ IsB w' L M 1 (Dn 7 3 0) ∧ ChM M W w') := fun W h => set_yes L M 0 7 0 0 3 W h (by omega) (by omega) (by omega)
  have H2 : Hid (∀ W, IsB W L M 1 (Dn 7 3 0) → Calls Try.prog 32 #[.pointer (some ⟨L, 0, none⟩), .int .u32 7, .int .i64 2] W fun r w' => r = .returned (.tuple #[]) ∧ IsB w' L M 2 (Dn 7 2 0) ∧ ChM M W w') := fun W h => set_yes L M 1 7 3 0 2 W h (by omega) (by omega) (by omega)
  have H3 : Hid (∀ W, IsB W L M 2 (Dn 7 2 0) → Calls Try.prog 31 #[.pointer (some ⟨L, 0, none⟩)] W fun r w' => (∃ v, r = .returned v ∧ Told W w' 7 2 0 v) ∧ IsB w' L M 3 (Dn 7 2 2) ∧ ChM M W w') := fun W h => flush_any L M 2 7 2 0 W h (by omega) (by omega)
  have H4 : Hid (∀ W, IsB W L M 3 (Dn 7 2 2) → Calls Try.prog 31 #[.pointer (some ⟨L, 0, none⟩)] W fun r w' => (∃ v, r = .returned v ∧ Told W w' 7 2 2 v) ∧ IsB w' L M 4 (Dn 7 2 2) ∧ ChM M W w') := fun W h => flush_any L M 3 7 2 2 W h (by omega) (by omega)
  have HM := Lib.hid hM
  clear hL hM
  go_enter Try.func38, Try.ntmps38
  go_wp2_with fail
  refine HN.out.mono ?_
  rintro r w1 ⟨rfl, hI1, hB1⟩
  have HB1 := Lib.hid hB1
  clear hB1
  go_wp2_with fail
  refine (H1.out w1 hI1).mono ?_
  rintro r w2 ⟨rfl, hI2, hC2⟩
  have HC2 := Lib.hid hC2
  clear hI1 hC2
  go_wp2_with fail
  refine (H2.out w2 hI2).mono ?_
  rintro r w3 ⟨rfl, hI3, hC3⟩
  have HC3 := Lib.hid (HC2.out.trans hC3)
  clear hI2 hC3 HC2
  go_wp2_with fail
  refine (H3.out w3 hI3).mono ?_
  rintro r w4 ⟨⟨v, rfl, hT⟩, hI4, hC4⟩
  have HC4 := Lib.hid (HC3.out.trans hC4)
  clear hI3 hC4 HC3
  rcases hT with ⟨h, _⟩ | ⟨_, g, c, rfl, _, q0, q1⟩
  · simp [seen] at h
  have g0 : w4.cell? ⟨g, 0, none⟩ = some (.int .u32 7) := q0
  have g1 : w4.cell? ⟨g, 1, none⟩ = some (.int .i64 2) := q1
  clear q0 q1
  go_wp2_with fail
  refine (H4.out w4 hI4).mono ?_
  rintro r w5 ⟨⟨v, rfl, hT⟩, hI5, hC5⟩
  have HC5 := Lib.hid (HC4.out.trans hC5)
  clear hI4 hC5 HC4 hI5 g0 g1
  rcases hT with ⟨_, a, c', rfl⟩ | ⟨h, _⟩
  · go_wp2
    go_ret
    exact ⟨rfl, HB1.out.trans (HC5.out.1 _ (by rw [HM.out]; exact Nat.le_refl _) HB1.out.size)⟩
  · simp [seen] at h
end Go.Proofs.Ytaoejkbockcneaa.Bd
