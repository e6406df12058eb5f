/- Board: Right, Set, Seen, the library's sort of one thing at most, calls on no board. -/
import Derived.Test.YtaoejkbockcneaaU1
namespace Go.Proofs.Ytaoejkbockcneaa.Bd
open Go.RowKit
set_option maxRecDepth 20000

/-- What is seen of a status; a status that is one. -/
def seen (x : Int) : Int := if x = 1 then 1 else if x = 2 then 2 else if x = 3 then 2 else if x = 4 then 5 else if x = 5 then 5 else 0
def nrm (x : Int) : Int := if x < 0 ∨ x > 6 then 0 else x
theorem seen_nrm (x : Int) : seen (nrm x) = seen x := by
  unfold nrm
  split
  · rename_i h
    have h1 : ¬ x = 1 := by omega
    have h2 : ¬ x = 2 := by omega
    have h3 : ¬ x = 3 := by omega
    have h4 : ¬ x = 4 := by omega
    have h5 : ¬ x = 5 := by omega
    simp [seen, h1, h2, h3, h4, h5]
  · rfl
theorem right_yes (p : Nat) (h1 : 1 ≤ p) (h2 : p ≤ 2147483647) (w : World) : Calls Try.prog 53 #[.int .u32 (p : Int)] w fun r w' => r = .returned (.bool true) ∧ w' = w := by
  have t1 : decide ((p : Int) ≥ 1) = true := by rw [decide_eq_true_iff]; omega
  have t2 : decide ((p : Int) ≤ 2147483647) = true := by rw [decide_eq_true_iff]; omega
  go_enter Try.func53, Try.ntmps53
  go_wp2
  go_ret
  exact ⟨rfl, rfl⟩
theorem right_no (p : Nat) (h : p < 1 ∨ p > 2147483647) (w : World) : Calls Try.prog 53 #[.int .u32 (p : Int)] w fun r w' => r = .returned (.bool false) ∧ w' = w := by
  rcases h with h | h
  · have t1 : decide ((p : Int) ≥ 1) = false := by rw [decide_eq_false_iff_not]; omega
    go_enter Try.func53, Try.ntmps53
    go_wp2
    go_ret
    exact ⟨rfl, rfl⟩
  · have t1 : decide ((p : Int) ≥ 1) = true := by rw [decide_eq_true_iff]; omega
    have t2 : decide ((p : Int) ≤ 2147483647) = false := by rw [decide_eq_false_iff_not]; omega
    go_enter Try.func53, Try.ntmps53
    go_wp2
    go_ret
    exact ⟨rfl, rfl⟩
set_option maxHeartbeats 1000000 in
theorem seen_any (x : Int) (w : World) : Calls Try.prog 36 #[.int .i64 x] w fun r w' => r = .returned (.int .i64 (seen x)) ∧ w' = w := by
  by_cases h1 : x = 1
  · subst h1
    go_enter Try.func36, Try.ntmps36
    go_wp2
    go_ret
    exact ⟨rfl, rfl⟩
  by_cases h2 : x = 2
  · subst h2
    go_enter Try.func36, Try.ntmps36
    go_wp2
    go_ret
    exact ⟨rfl, rfl⟩
  by_cases h3 : x = 3
  · subst h3
    go_enter Try.func36, Try.ntmps36
    go_wp2
    go_ret
    exact ⟨rfl, rfl⟩
  by_cases h4 : x = 4
  · subst h4
    go_enter Try.func36, Try.ntmps36
    go_wp2
    go_ret
    exact ⟨rfl, rfl⟩
  by_cases h5 : x = 5
  · subst h5
    go_enter Try.func36, Try.ntmps36
    go_wp2
    go_ret
    exact ⟨rfl, rfl⟩
  have HE : Hid (seen x = 0) := by simp [seen, h1, h2, h3, h4, h5, Hid]
  have e1 : (x == 1) = false := by simp [h1]
  have e2 : (x == 2) = false := by simp [h2]
  have e3 : (x == 3) = false := by simp [h3]
  have e4 : (x == 4) = false := by simp [h4]
  have e5 : (x == 5) = false := by simp [h5]
  go_enter Try.func36, Try.ntmps36
  go_wp2
  go_ret
  exact ⟨by rw [HE.out]; rfl, rfl⟩
set_option maxHeartbeats 1000000 in
theorem rseen_any (x : Int) (w : World) : Calls Try.prog 37 #[.int .i64 x] w fun r w' => r = .returned (.int .i64 (seen x)) ∧ Below w.heap.size w w' := by
  by_cases h : x < 0 ∨ x > 6
  · have HE : Hid (seen x = 0) := by
      rw [← seen_nrm]
      simp only [nrm, h, if_true]
      exact rfl
    rcases h with h | h
    · have t1 : decide (x < 0) = true := by rw [decide_eq_true_iff]; exact h
      go_enter Try.func37, Try.ntmps37
      go_wp2
      go_ret
      exact ⟨by rw [HE.out]; rfl, Below.refl _ _⟩
    · have t1 : decide (x < 0) = false := by rw [decide_eq_false_iff_not]; omega
      have t2 : decide (x > 6) = true := by rw [decide_eq_true_iff]; exact h
      go_enter Try.func37, Try.ntmps37
      go_wp2
      go_ret
      exact ⟨by rw [HE.out]; rfl, Below.refl _ _⟩
  · have hb := (Below.refl w.heap.size w).alloc (Nat.le_refl _) (.cells #[.int .i64 0, .int .i64 1, .int .i64 2, .int .i64 2, .int .i64 5, .int .i64 5, .int .i64 0] 3)
    have : x = 0 ∨ x = 1 ∨ x = 2 ∨ x = 3 ∨ x = 4 ∨ x = 5 ∨ x = 6 := by omega
    rcases this with rfl | rfl | rfl | rfl | rfl | rfl | rfl <;>
    · clear h
      go_enter Try.func37, Try.ntmps37
      go_wp2
      go_ret
      exact ⟨rfl, hb⟩
theorem len64 (n : Nat) (hn : n ≤ 1) (w : World) : Calls Try.prog 82 #[.int .u64 (n : Int)] w fun e w' => (∃ k : Int, e = .returned (.int .i64 k)) ∧ w' = w := by
  have : n = 0 ∨ n = 1 := by omega
  rcases this with rfl | rfl <;>
  · go_enter Try.func82, Try.ntmps82
    go_wp2
    go_ret
    exact ⟨⟨_, rfl⟩, rfl⟩
theorem len65 (n : Nat) (hn : n ≤ 1) (w : World) : Calls Try.prog 68 #[.int .u64 (n : Int)] w fun e w' => (∃ k : Int, e = .returned (.int .i64 k)) ∧ w' = w := by
  have HC := Lib.hid (len64 n hn w)
  go_enter Try.func68, Try.ntmps68
  go_wp2_with (go_at_call 82; refine HC.out.mono ?_; rintro e w' ⟨⟨k, rfl⟩, rfl⟩)
  go_ret
  exact ⟨⟨_, rfl⟩, rfl⟩
theorem ins_any (p : Option Addr) (n c : Nat) (hn : n ≤ 1) (f : Value) (w : World) : Calls Try.prog 73 #[.slice p n c, .int .i64 0, .int .i64 (n : Int), f] w fun e w' => e = .returned (.tuple #[]) ∧ w' = w := by
  have : n = 0 ∨ n = 1 := by omega
  rcases this with rfl | rfl <;>
  · go_enter Try.func73, Try.ntmps73
    go_wp2
    refine wp_loop_rounds 1 ?_
    rw [rounds_succ]
    go_wp2
    go_end0
    exact ⟨rfl, rfl⟩
theorem pdq_any (p : Option Addr) (n c : Nat) (hn : n ≤ 1) (lim : Int) (f : Value) (w : World) : Calls Try.prog 67 #[.slice p n c, .int .i64 0, .int .i64 (n : Int), .int .i64 lim, f] w fun e w' => e = .returned (.tuple #[]) ∧ w' = w := by
  have HC := Lib.hid (ins_any p n c hn f w)
  have t : decide ((n : Int) ≤ 12) = true := by rw [decide_eq_true_iff]; omega
  go_enter Try.func67, Try.ntmps67
  go_wp2
  refine wp_loop_rounds 1 ?_
  rw [rounds_succ]
  go_wp2_with (go_at_call 73; refine HC.out.mono ?_; rintro e w' ⟨rfl, rfl⟩)
  (try simp only [Exit.inBlock, Exit.then])
  refine bodyPost_ret (results_none rfl _ _ _) rfl ?_
  exact ⟨rfl, rfl⟩
theorem sort_any (p : Option Addr) (n c : Nat) (hn : n ≤ 1) (f : Value) (w : World) : Calls Try.prog 50 #[.slice p n c, f] w fun e w' => e = .returned (.tuple #[]) ∧ w' = w := by
  have HP := Lib.hid fun lim => pdq_any p n c hn lim f w
  have HL := Lib.hid (len65 n hn w)
  go_enter Try.func50, Try.ntmps50
  go_wp2_with (first | (go_at_call 68; refine HL.out.mono ?_; rintro e w' ⟨⟨k, rfl⟩, rfl⟩) | (go_at_call 67; refine (HP.out _).mono ?_; rintro e w' ⟨rfl, rfl⟩))
  go_end0
  exact ⟨rfl, rfl⟩
theorem set_nil (p : Nat) (x : Int) (w : World) : Calls Try.prog 32 #[.pointer none, .int .u32 (p : Int), .int .i64 x] w fun e w' => e = .returned (.tuple #[]) ∧ w' = w := by
  go_enter Try.func32, Try.ntmps32
  go_wp2
  (try simp only [Exit.inBlock, Exit.then])
  refine bodyPost_ret (results_none rfl _ _ _) rfl ?_
  exact ⟨rfl, rfl⟩
theorem set_no (L p : Nat) (x : Int) (h : p < 1 ∨ p > 2147483647) (w : World) : Calls Try.prog 32 #[.pointer (some ⟨L, 0, none⟩), .int .u32 (p : Int), .int .i64 x] w fun e w' => e = .returned (.tuple #[]) ∧ w' = w := by
  have HC := Lib.hid (right_no p h w)
  clear h
  go_enter Try.func32, Try.ntmps32
  go_wp2_with (go_at_call 53; refine HC.out.mono ?_; rintro e w' ⟨rfl, rfl⟩)
  (try simp only [Exit.inBlock, Exit.then])
  refine bodyPost_ret (results_none rfl _ _ _) rfl ?_
  exact ⟨rfl, rfl⟩
theorem status_nil (p : Nat) (w : World) : Calls Try.prog 34 #[.pointer none, .int .u32 (p : Int)] w fun e w' => e = .returned (.int .i64 0) ∧ w' = w := by
  go_enter Try.func34, Try.ntmps34
  go_wp2
  go_ret
  exact ⟨rfl, rfl⟩
theorem flush_nil (w : World) : Calls Try.prog 31 #[.pointer none] w fun e w' => e = .returned (.slice none 0 0) ∧ w' = w := by
  go_enter Try.func31, Try.ntmps31
  go_wp2
  go_ret
  exact ⟨rfl, rfl⟩
theorem fld0 (s t : Int) (W : World) : (Instr.field 120 (.agg #[.int .i64 s, .int .i64 t]) 0).run Try.prog W = .ok (.int .i64 s) W := by kernel_rfl
theorem fld1 (s t : Int) (W : World) : (Instr.field 120 (.agg #[.int .i64 s, .int .i64 t]) 1).run Try.prog W = .ok (.int .i64 t) W := by kernel_rfl
set_option maxHeartbeats 1000000 in
theorem set_yes (L M cnt p : Nat) (s t x : Int) (w : World) (hL : IsB w L M cnt (Dn p s t)) (h1 : 1 ≤ p) (h2 : p ≤ 2147483647) (hcnt : cnt ≤ 1000) :
    Calls Try.prog 32 #[.pointer (some ⟨L, 0, none⟩), .int .u32 (p : Int), .int .i64 x] w fun r w' => r = .returned (.tuple #[]) ∧ IsB w' L M (cnt + 1) (Dn p (nrm x) t) ∧ ChM M w w' := by
  have HC := Lib.hid (right_yes p h1 h2 w)
  have HK := Lib.hid fun y => keep_any L M cnt p s t y t w hL (by omega) hcnt
  obtain ⟨v, ps, hlk, hv⟩ := hL.2.lookup K26 Try.underlying114 (zero120 w) (R_mk 0 0) (key26 p (by omega))
  rw [Dn_at] at hv
  obtain rfl := R_inv hv
  dsimp only [nV] at hlk
  have hfd := fld1 s t w
  have c1 := cell_of_row w L 0 _ _ _ hL.1
  simp at c1
  clear hv hL h1 h2 hcnt
  by_cases hx : x < 0
  · have t1 : decide (x < 0) = true := by rw [decide_eq_true_iff]; exact hx
    have HE := Lib.hid (show nrm x = 0 by simp [nrm, hx])
    go_enter Try.func32, Try.ntmps32
    go_wp2_with (first | (go_at_call 53; refine HC.out.mono ?_; rintro e w' ⟨rfl, rfl⟩) | (go_at_call 49; refine (HK.out _).mono ?_; rintro e w' ⟨rfl, hw⟩))
    go_end0
    exact ⟨rfl, by rw [HE.out]; exact hw.1, hw.2⟩
  · have t1 : decide (x < 0) = false := by rw [decide_eq_false_iff_not]; exact hx
    by_cases hy : x > 6
    · have t2 : decide (x > 6) = true := by rw [decide_eq_true_iff]; exact hy
      have HE := Lib.hid (show nrm x = 0 by simp [nrm]; intro _ h; omega)
      go_enter Try.func32, Try.ntmps32
      go_wp2_with (first | (go_at_call 53; refine HC.out.mono ?_; rintro e w' ⟨rfl, rfl⟩) | (go_at_call 49; refine (HK.out _).mono ?_; rintro e w' ⟨rfl, hw⟩))
      go_end0
      exact ⟨rfl, by rw [HE.out]; exact hw.1, hw.2⟩
    · have t2 : decide (x > 6) = false := by rw [decide_eq_false_iff_not]; exact hy
      have HE := Lib.hid (show nrm x = x by simp [nrm]; intro h; omega)
      go_enter Try.func32, Try.ntmps32
      go_wp2_with (first | (go_at_call 53; refine HC.out.mono ?_; rintro e w' ⟨rfl, rfl⟩) | (go_at_call 49; refine (HK.out _).mono ?_; rintro e w' ⟨rfl, hw⟩))
      go_end0
      exact ⟨rfl, by rw [HE.out]; exact hw.1, hw.2⟩
end Go.Proofs.Ytaoejkbockcneaa.Bd
