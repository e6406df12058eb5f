/- Elo: the document's expected; what is at stake. -/
import Derived.Test.YtlkebffainhfaaaDoorE2
namespace Go.Proofs.YtlkebffainhfaaaDoor
open Go.RowKit
set_option maxRecDepth 20000

abbrev rowV : Array Value := #[.int .i64 500, .int .i64 571, .int .i64 640, .int .i64 703, .int .i64 760, .int .i64 808, .int .i64 849, .int .i64 882, .int .i64 909, .int .i64 930, .int .i64 947, .int .i64 960, .int .i64 969, .int .i64 977, .int .i64 983, .int .i64 987, .int .i64 990]
theorem rowV_cell (w : World) (k : Nat) (hk : k < 17) : (w.alloc (.cells rowV 3)).cell? ⟨w.heap.size, k, none⟩ = some (.int .i64 (rowAt k)) := by
  rw [cell_of_row _ _ _ _ _ _ (heap_alloc_new w _)]
  have e : rowV = (rowZ.map (Value.int .i64)).toArray := rfl
  have hl : k < rowZ.length := hk
  rw [e]
  simp [rowAt, hl]

set_option maxHeartbeats 400000 in
theorem rexp_core (a b x y : Int) (w : World) (hx : ∀ W, Calls Tryd.prog 24 #[.int .i64 a] W fun r w' => r = .returned (.int .i64 x) ∧ w' = W) (hy : ∀ W, Calls Tryd.prog 24 #[.int .i64 b] W fun r w' => r = .returned (.int .i64 y) ∧ w' = W) (hbx : 0 ≤ x ∧ x ≤ 10000) (hby : 0 ≤ y ∧ y ≤ 10000) :
    Calls Tryd.prog 11 #[.int .i64 a, .int .i64 b] w fun r w' => r = .returned (.int .i64 (expd x y)) ∧ Below w.heap.size w w' := by
  have HX := Lib.hid hx
  have HY := Lib.hid hy
  clear hx hy
  obtain ⟨d, hd⟩ : ∃ d : Int, d = if x < y then y - x else x - y := ⟨_, rfl⟩
  have hd0 : 0 ≤ d ∧ d ≤ 10000 := by rw [hd]; split <;> omega
  have hc := rowV_cell w (plc d) (plc_lt d)
  have hcb := rowAt_bd _ (plc_lt d)
  have he : expd x y = if x < y then 1000 - rowAt (plc d) else rowAt (plc d) := by
    unfold expd; rw [hd]; split <;> rfl
  generalize rowAt (plc d) = z at hc hcb he
  obtain ⟨k, hk⟩ : ∃ k : Nat, plc d = k := ⟨_, rfl⟩
  have hk17 : k < 17 := by rw [← hk]; exact plc_lt _
  rw [hk] at hc
  have hbel : Below w.heap.size w (w.alloc (.cells rowV 3)) := (Below.refl _ _).alloc (Nat.le_refl _) _
  have HB := Lib.hid hbel
  clear hbel
  rw [he]
  clear he
  by_cases hxy : x < y
  · rw [if_pos hxy] at hd ⊢
    by_cases h2 : 16 < d / 50
    · have hk2 : k = 16 := by rw [← hk]; unfold plc; omega
      subst hk2
      have g1 : x - y = -d := by omega
      have g2 : 0 < d := by omega
      clear hk hd
      go_enter Tryd.func11, Tryd.ntmps11
      go_wp2_with fail
      refine (HX.out _).mono ?_
      rintro e w' ⟨rfl, rfl⟩
      go_wp2_with fail
      refine (HY.out _).mono ?_
      rintro e w' ⟨rfl, rfl⟩
      go_wp2
      go_ret
      exact ⟨rfl, HB.out⟩
    · have hk2 : d / 50 = (k : Int) := by rw [← hk]; unfold plc; omega
      have g1 : x - y = -d := by omega
      have g2 : 0 < d := by omega
      clear hk hd
      go_enter Tryd.func11, Tryd.ntmps11
      go_wp2_with fail
      refine (HX.out _).mono ?_
      rintro e w' ⟨rfl, rfl⟩
      go_wp2_with fail
      refine (HY.out _).mono ?_
      rintro e w' ⟨rfl, rfl⟩
      go_wp2
      go_ret
      exact ⟨rfl, HB.out⟩
  · rw [if_neg hxy] at hd ⊢
    by_cases h2 : 16 < d / 50
    · have hk2 : k = 16 := by rw [← hk]; unfold plc; omega
      subst hk2
      have g1 : x - y = d := by omega
      have g2 : ¬ d < 0 := by omega
      clear hk hd
      go_enter Tryd.func11, Tryd.ntmps11
      go_wp2_with fail
      refine (HX.out _).mono ?_
      rintro e w' ⟨rfl, rfl⟩
      go_wp2_with fail
      refine (HY.out _).mono ?_
      rintro e w' ⟨rfl, rfl⟩
      go_wp2
      go_ret
      exact ⟨rfl, HB.out⟩
    · have hk2 : d / 50 = (k : Int) := by rw [← hk]; unfold plc; omega
      have g1 : x - y = d := by omega
      have g2 : ¬ d < 0 := by omega
      clear hk hd
      go_enter Tryd.func11, Tryd.ntmps11
      go_wp2_with fail
      refine (HX.out _).mono ?_
      rintro e w' ⟨rfl, rfl⟩
      go_wp2_with fail
      refine (HY.out _).mono ?_
      rintro e w' ⟨rfl, rfl⟩
      go_wp2
      go_ret
      exact ⟨rfl, HB.out⟩
theorem rexp_any (a b : Int) (w : World) : Calls Tryd.prog 11 #[.int .i64 a, .int .i64 b] w fun r w' => r = .returned (.int .i64 (expd (rt a) (rt b))) ∧ Below w.heap.size w w' :=
  rexp_core a b (rt a) (rt b) w (fun W => rating_any a W) (fun W => rating_any b W) (rt_bd a) (rt_bd b)
end Go.Proofs.YtlkebffainhfaaaDoor
