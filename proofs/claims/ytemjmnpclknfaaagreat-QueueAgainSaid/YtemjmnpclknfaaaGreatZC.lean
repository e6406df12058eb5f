/- Sort at uint32 of a slice of one's own; of a nil slice. -/
import Derived.Test.YtemjmnpclknfaaaGreatZB
namespace Go.Proofs.YtemjmnpclknfaaaGreat.Z
open Go.RowKit
set_option maxRecDepth 20000
set_option linter.unusedVariables false

theorem ins_nil0 (w : World) : Calls Tryz.prog 99 #[.slice none 0 0, .int .i64 0, .int .i64 0] w fun r w' => r = .returned (.tuple #[]) ∧ w' = w := by
  go_enter Tryz.func99, Tryz.ntmps99
  go_wp2
  go_loopw [6] (fun vi wr => vi = .int .i64 1 ∧ wr = w) (fun vi _ => 0)
  case atStart => exact ⟨by go_num, rfl⟩
  case round =>
    obtain ⟨rfl, rfl⟩ := hrel
    go_wp2
    go_end0
    exact ⟨rfl, rfl⟩
theorem pd_nil (w : World) : Calls Tryz.prog 89 #[.slice none 0 0, .int .i64 0, .int .i64 0, .int .i64 0] w fun r w' => r = .returned (.tuple #[]) ∧ w' = w := by
  go_enter Tryz.func89, Tryz.ntmps89
  go_wp2
  go_loopw [1, 2, 3, 8, 9] (fun va vb vl vwb vwp wr => va = .int .i64 0 ∧ vb = .int .i64 0 ∧ vl = .int .i64 0 ∧ vwb = .bool true ∧ vwp = .bool true ∧ wr = w) (fun _ _ _ _ _ _ => 0)
  case atStart => exact ⟨rfl, rfl, rfl, rfl, rfl, rfl⟩
  case round =>
    obtain ⟨rfl, rfl, rfl, rfl, rfl, rfl⟩ := hrel
    go_wp2_with (go_at_call 99; refine (ins_nil0 _).mono ?_; rintro e w' ⟨rfl, rfl⟩)
    exact bodyPost_ret (v := .tuple #[]) (by simp [results, Tryz.results89, go_sem]) rfl ⟨rfl, rfl⟩
theorem so_nil (w : World) : Calls Tryz.prog 70 #[.slice none 0 0] w fun r w' => r = .returned (.tuple #[]) ∧ w' = w := by
  have C1 := Lib.hid (bits_Len 0 w (by omega) (by omega))
  have h0 : Lib.bitLen (0 : Int).toNat = 0 := by decide
  go_enter Tryz.func70, Tryz.ntmps70
  go_wp2_with (first
    | (go_at_call 66; refine C1.out.mono ?_; rintro e w' ⟨rfl, rfl⟩; rw [h0])
    | (go_at_call 89; refine (pd_nil _).mono ?_; rintro e w1 ⟨rfl, rfl⟩))
  go_end0
  exact ⟨rfl, rfl⟩
theorem sorted_len (l : List Nat) : (sortedN l).length = l.length := by simp [sortedN]
theorem sort_own (B : Nat) (v : Value) (l : List Nat) (w : World) (h : w.ownsRow B 33 1 v l.length (un l)) (hl : l.length < 1000000000) :
    Calls Tryz.prog 70 #[v] w fun r w' => r = .returned (.tuple #[]) ∧ w'.ownsRow B 33 1 v l.length (un (sortedN l)) ∧ Below B w w' := by
  rcases h.2 with ⟨rfl, h0⟩ | ⟨g, cap, cur, rfl, hg, hb, h1, h2, h3, h4⟩
  · have hl0 : l = [] := List.eq_nil_of_length_eq_zero h0
    subst hl0
    refine (so_nil w).mono ?_
    rintro r w' ⟨rfl, rfl⟩
    exact ⟨rfl, by simpa [sortedN] using h, Below.refl _ _⟩
  · rw [Nat.mul_one] at h3 h4
    have hcur : cur = ([] ++ un l ++ cur.toList.drop l.length).toArray := by
      apply Array.toList_inj.1
      rw [← h4]
      simp
    have hS : Sr w g [] (cur.toList.drop l.length) l.toArray w := ⟨Below.refl _ _, by rw [hb, ← hcur]⟩
    refine (so_any g 0 l.length cap [] (cur.toList.drop l.length) l w w hS rfl rfl hl).mono ?_
    rintro r w' ⟨rfl, hS'⟩
    refine ⟨rfl, ⟨by simp [un, sorted_len], Or.inr ⟨g, cap, _, rfl, hg, hS'.2, h1, h2, ?_, ?_⟩⟩, hS'.1.mono hg⟩
    · have : cur.size = cap := h3
      simp [un, sorted_len]
      omega
    · rw [Nat.mul_one]
      simp [un, sorted_len]
end Go.Proofs.YtemjmnpclknfaaaGreat.Z
