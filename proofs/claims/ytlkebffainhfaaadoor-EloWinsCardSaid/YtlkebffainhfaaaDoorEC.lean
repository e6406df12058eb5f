/- Elo: the other way round; EloTurned's walk. -/
import Derived.Test.YtlkebffainhfaaaDoorE9
namespace Go.Proofs.YtlkebffainhfaaaDoor
open Go.RowKit
set_option maxRecDepth 20000

theorem shr_neg' (p m k : Int) : shr (-p) m k = -shr p m k := by
  unfold shr
  by_cases h : p < 0
  · rw [if_neg (by omega), if_pos h]; omega
  · by_cases h0 : p = 0
    · subst h0
      have e : shp 0 m k = 0 := by
        unfold shp
        by_cases hk : k < 0 ∨ m ≤ k
        · rw [if_pos hk]
        · rw [if_neg hk, if_neg (by simp; omega)]; simp
      simp [e]
    · rw [if_pos (by omega), if_neg h, Int.neg_neg]
theorem expd_turn (a b : Int) : expd b a = 1000 - expd a b := by
  unfold expd
  by_cases h : a < b
  · rw [if_neg (by omega), if_pos h]; omega
  · by_cases h2 : b < a
    · rw [if_pos h2, if_neg h]
    · obtain rfl : a = b := by omega
      rw [if_neg h, Int.sub_self]
      decide
/-- A result, turned. -/
def trn (r : Int) : Int := if r = 1 then 2 else if r = 2 then 1 else r
theorem isr_trn (r : Int) : isr (trn r) = isr r := by
  unfold isr trn
  by_cases h1 : r = 1
  · subst h1; rfl
  · by_cases h2 : r = 2
    · subst h2; rfl
    · rw [if_neg h1, if_neg h2]
theorem stk_turn (a b m r : Int) : stk b a m (trn r) = -stk a b m r := by
  unfold stk
  rw [isr_trn]
  split
  · rename_i h
    have e : scr (trn r) - expd (rt b) (rt a) = -(scr r - expd (rt a) (rt b)) := by
      rw [expd_turn (rt a) (rt b)]
      have hs : scr (trn r) = 1000 - scr r := by
        rcases isr_cases r with ⟨_, rfl | rfl | rfl⟩ | ⟨h2, _⟩
        · decide
        · decide
        · decide
        · rw [h] at h2; cases h2
      omega
    rw [e, Int.mul_neg, Int.neg_tdiv]
  · rfl
theorem good_turn (a b : List Int) (r : Int) : good b a (trn r) = good a b r := by
  unfold good
  rw [isr_trn]
  cases tm a.length <;> cases tm b.length <;> cases isr r <;> cases okr a <;> cases okr b <;> rfl
theorem updS_turn (a b : List Int) (r : Int) : updS b a (trn r) = -updS a b r := by
  unfold updS
  rw [Nat.min_comm, stk_turn]
theorem updE_turn (a b : List Int) (r : Int) : updE b a (trn r) = updE a b r := by
  unfold updE
  rw [isr_trn]
  cases tm a.length <;> cases tm b.length <;> cases isr r <;> cases okr a <;> cases okr b <;> rfl
theorem updA_turn (a b : List Int) (r : Int) : updA b a (trn r) = updB a b r := by
  unfold updA updB
  rw [good_turn, updS_turn]
theorem updB_turn (a b : List Int) (r : Int) : updB b a (trn r) = updA a b r := by
  unfold updA updB
  rw [good_turn, updS_turn, Int.neg_neg]
theorem updA_len (a b : List Int) (r : Int) (h : a.length ≤ 1000) : (updA a b r).length ≤ 1000 := by
  unfold updA
  split
  · rw [bhd_length]; exact h
  · simp
theorem updB_len (a b : List Int) (r : Int) (h : b.length ≤ 1000) : (updB a b r).length ≤ 1000 := by
  unfold updB
  split
  · rw [bhd_length]; exact h
  · simp


set_option maxHeartbeats 1000000 in
theorem turned_walk (A : Option Addr) (ca : Nat) (a : List Int) (B : Option Addr) (cb : Nat) (b : List Int) (r : Int) (w : World) (hR : Rw w) (hz : 0 < w.heap.size) (ha : Zs w (.slice A a.length ca) a) (hla : a.length ≤ 9223372036854775807) (hb : Zs w (.slice B b.length cb) b) (hlb : b.length ≤ 9223372036854775807) (_hr : -9223372036854775808 ≤ r ∧ r ≤ 9223372036854775807) :
    Calls Tryd.prog 8 #[.slice A a.length ca, .slice B b.length cb, .int .i64 r] w fun e w' => e = .returned (.bool true) ∧ Below w.heap.size w w' := by
  by_cases h1 : 10 < a.length
  · have g1 : 10 < (a.length : Int) := by omega
    go_enter Tryd.func8, Tryd.ntmps8
    go_wp2_with fail
    go_ret
    exact ⟨rfl, Below.refl _ _⟩
  · by_cases h2 : 10 < b.length
    · have g1 : ¬ 10 < (a.length : Int) := by omega
      have g2 : 10 < (b.length : Int) := by omega
      go_enter Tryd.func8, Tryd.ntmps8
      go_wp2_with fail
      go_ret
      exact ⟨rfl, Below.refl _ _⟩
    · have g1 : ¬ 10 < (a.length : Int) := by omega
      have g2 : ¬ 10 < (b.length : Int) := by omega
      obtain ⟨X, hX⟩ : ∃ X, X = updA a b r := ⟨_, rfl⟩
      obtain ⟨Y, hY⟩ : ∃ Y, Y = updB a b r := ⟨_, rfl⟩
      obtain ⟨E, hE⟩ : ∃ E, E = updE a b r := ⟨_, rfl⟩
      obtain ⟨t, ht⟩ : ∃ t, t = trn r := ⟨_, rfl⟩
      have HXL : Hid (X.length ≤ 1000) := by rw [hX]; exact updA_len a b r (by omega)
      have HYL : Hid (Y.length ≤ 1000) := by rw [hY]; exact updB_len a b r (by omega)
      have HU1 : Hid (Calls Tryd.prog 19 #[.slice A a.length ca, .slice B b.length cb, .int .i64 r] w fun e w' => ∃ vx vy, e = .returned (.tuple #[vx, vy, .int .i64 E]) ∧ Zs w' vx X ∧ Zs w' vy Y ∧ Below w.heap.size w w') := by
        rw [hX, hY, hE]; exact upd_any _ _ a b r w ha hb (by omega) (by omega) hR hz
      have HU2 : Hid (∀ W, Below w.heap.size w W → Calls Tryd.prog 19 #[.slice B b.length cb, .slice A a.length ca, .int .i64 t] W fun e w' => ∃ vx vy, e = .returned (.tuple #[vx, vy, .int .i64 E]) ∧ Zs w' vx Y ∧ Zs w' vy X ∧ Below W.heap.size W w') := fun W hB => by
        have h := upd_any _ _ b a (trn r) W (hb.below hB (Nat.le_refl _)) (ha.below hB (Nat.le_refl _)) (by omega) (by omega) (hR.below hB hz) (Nat.lt_of_lt_of_le hz hB.size)
        unfold UpdPost at h
        rw [updA_turn, updB_turn, updE_turn] at h
        rw [hX, hY, hE, ht]
        exact h
      have HW : Hid (∀ W, Below w.heap.size w W → Calls Tryd.prog 16 #[] W fun r w' => r = .returned (.bool true) ∧ Below W.heap.size W w') := fun W hb => eawake W (hR.below hb hz) (Nat.lt_of_lt_of_le hz hb.size)
      have hEE : (E == E) = true := by simp
      have hcase : (r = 1 ∧ t = 2) ∨ (r = 2 ∧ t = 1) ∨ (r ≠ 1 ∧ r ≠ 2 ∧ t = r) := by
        rw [ht]; unfold trn; split
        · left; omega
        · split <;> omega
      clear hX hY hE ht ha hb hR
      rcases hcase with ⟨rfl, rfl⟩ | ⟨rfl, rfl⟩ | ⟨n1, n2, rfl⟩
      rotate_left 2
      have f1 : (t == 1) = false := by simpa using n1
      have f2 : (t == 2) = false := by simpa using n2
      clear n1 n2
      rotate_left 1
      all_goals
        go_enter Tryd.func8, Tryd.ntmps8
        go_wp2_with fail
        refine HU1.out.mono ?_
        rintro e w3 ⟨vx, vy, rfl, hzx, hzy, hb3⟩
        obtain ⟨Ax, cx, rfl⟩ := zs_form hzx
        obtain ⟨Ay, cy, rfl⟩ := zs_form hzy
        have HZX := Lib.hid hzx
        have HZY := Lib.hid hzy
        have HB3 := Lib.hid hb3
        clear hzx hzy hb3
        go_wp2_with fail
        refine (HU2.out _ HB3.out).mono ?_
        rintro e w4 ⟨vp, vq, rfl, hzp, hzq, hb4⟩
        obtain ⟨Ap, cp, rfl⟩ := zs_form hzp
        obtain ⟨Aq, cq, rfl⟩ := zs_form hzq
        have HZX4 : Hid (Zs w4 (.slice Ax X.length cx) X) := HZX.out.below hb4 (Nat.le_refl _)
        have HZY4 : Hid (Zs w4 (.slice Ay Y.length cy) Y) := HZY.out.below hb4 (Nat.le_refl _)
        have HZP4 := Lib.hid hzp
        have HZQ4 := Lib.hid hzq
        have HB4 : Hid (Below w.heap.size w w4) := HB3.out.trans (hb4.mono HB3.out.size)
        clear hzp hzq hb4 HZX HZY
        go_wp2_with fail
        refine (same_eq _ _ X w4 HZX4.out HZQ4.out HXL.out).mono ?_
        rintro e w5 ⟨rfl, hb5⟩
        have HZY5 : Hid (Zs w5 (.slice Ay Y.length cy) Y) := HZY4.out.below hb5 (Nat.le_refl _)
        have HZP5 : Hid (Zs w5 (.slice Ap Y.length cp) Y) := HZP4.out.below hb5 (Nat.le_refl _)
        have HB5 : Hid (Below w.heap.size w w5) := HB4.out.trans (hb5.mono HB4.out.size)
        clear hb5
        go_wp2_with fail
        refine (same_eq _ _ Y w5 HZY5.out HZP5.out HYL.out).mono ?_
        rintro e w6 ⟨rfl, hb6⟩
        have HB6 : Hid (Below w.heap.size w w6) := HB5.out.trans (hb6.mono HB5.out.size)
        clear hb6
        go_wp2_with fail
        refine (HW.out _ HB6.out).mono ?_
        rintro e w7 ⟨rfl, hb7⟩
        have HB7 : Hid (Below w.heap.size w w7) := HB6.out.trans (hb7.mono HB6.out.size)
        clear hb7
        go_wp2_with fail
        go_ret
        exact ⟨rfl, HB7.out⟩
end Go.Proofs.YtlkebffainhfaaaDoor
