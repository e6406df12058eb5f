/- Elo: the document's Update, whole; EloUpdates' walk. -/
import Derived.Test.YtlkebffainhfaaaDoorEB
import Derived.Test.YtlkebffainhfaaaDoorEC
namespace Go.Proofs.YtlkebffainhfaaaDoor
open Go.RowKit
set_option maxRecDepth 20000

/-- The document's Update, whole. -/
theorem rupd_any (va vb : Value) (a b : List Int) (r : Int) (w : World) (ha : Zs w va a) (hb : Zs w vb b) (hna : a.length ≤ 1000) (hnb : b.length ≤ 1000) :
    Calls Tryd.prog 20 #[va, vb, .int .i64 r] w (UpdPost w a b r) := by
  by_cases ht : tm a.length = true ∧ tm b.length = true
  · obtain ⟨hta, htb⟩ := ht
    refine (rupd_x va vb a b r w ha hb ((tm_iff _).1 hta) ((tm_iff _).1 htb)).mono fun e w' h => ?_
    obtain ⟨vx, vy, h1, h2, h3, h4⟩ := h
    have hg : good a b r = (isr r && okr a && okr b) := by unfold good; rw [hta, htb]; cases isr r <;> cases okr a <;> cases okr b <;> rfl
    refine ⟨vx, vy, ?_, ?_, ?_, h4⟩
    · rw [h1]
      unfold updE
      rw [hta, htb]
      cases isr r <;> cases okr a <;> cases okr b <;> rfl
    · unfold updA
      rw [hg]
      exact h2
    · unfold updB
      rw [hg]
      exact h3
  · obtain ⟨A, c, rfl⟩ := zs_form ha
    obtain ⟨B, d, rfl⟩ := zs_form hb
    refine (rupd_size A B a.length b.length c d r w ht hna hnb).mono fun e w' h => ?_
    have ht' : (tm a.length && tm b.length) = false := by
      cases h1 : tm a.length <;> cases h2 : tm b.length <;> simp [h1, h2] at ht ⊢
    have hg : good a b r = false := by unfold good; rw [ht']; rfl
    refine ⟨.slice none 0 0, .slice none 0 0, ?_, ?_, ?_, h.2⟩
    · rw [h.1]
      unfold updE
      rw [if_pos ht']
    · unfold updA
      rw [if_neg (by simp [hg])]
      exact zs_nil _
    · unfold updB
      rw [if_neg (by simp [hg])]
      exact zs_nil _

set_option maxHeartbeats 1000000 in
theorem updates_walk (A : Option Addr) (ca : Nat) (a : List Int) (B : Option Addr) (cb : Nat) (b : List Int) (r : Int) (w : World) (hR : Rw w) (hz : 0 < w.heap.size) (ha : Zs w (.slice A a.length ca) a) (hla : a.length ≤ 9223372036854775807) (hb : Zs w (.slice B b.length cb) b) (hlb : b.length ≤ 9223372036854775807) (_hr : -9223372036854775808 ≤ r ∧ r ≤ 9223372036854775807) :
    Calls Tryd.prog 5 #[.slice A a.length ca, .slice B b.length cb, .int .i64 r] w fun e w' => e = .returned (.bool true) ∧ Below w.heap.size w w' := by
  by_cases h1 : 10 < a.length
  · have g1 : 10 < (a.length : Int) := by omega
    go_enter Tryd.func5, Tryd.ntmps5
    go_wp2_with fail
    go_ret
    exact ⟨rfl, Below.refl _ _⟩
  · by_cases h2 : 10 < b.length
    · have g1 : ¬ 10 < (a.length : Int) := by omega
      have g2 : 10 < (b.length : Int) := by omega
      go_enter Tryd.func5, Tryd.ntmps5
      go_wp2_with fail
      go_ret
      exact ⟨rfl, Below.refl _ _⟩
    · have g1 : ¬ 10 < (a.length : Int) := by omega
      have g2 : ¬ 10 < (b.length : Int) := by omega
      obtain ⟨X, hX⟩ : ∃ X, X = updA a b r := ⟨_, rfl⟩
      obtain ⟨Y, hY⟩ : ∃ Y, Y = updB a b r := ⟨_, rfl⟩
      obtain ⟨E, hE⟩ : ∃ E, E = updE a b r := ⟨_, rfl⟩
      have HXL : Hid (X.length ≤ 1000) := by rw [hX]; exact updA_len a b r (by omega)
      have HYL : Hid (Y.length ≤ 1000) := by rw [hY]; exact updB_len a b r (by omega)
      have HU1 : Hid (Calls Tryd.prog 19 #[.slice A a.length ca, .slice B b.length cb, .int .i64 r] w fun e w' => ∃ vx vy, e = .returned (.tuple #[vx, vy, .int .i64 E]) ∧ Zs w' vx X ∧ Zs w' vy Y ∧ Below w.heap.size w w') := by
        rw [hX, hY, hE]; exact upd_any _ _ a b r w ha hb (by omega) (by omega) hR hz
      have HU2 : Hid (∀ W, Below w.heap.size w W → Calls Tryd.prog 20 #[.slice A a.length ca, .slice B b.length cb, .int .i64 r] W fun e w' => ∃ vx vy, e = .returned (.tuple #[vx, vy, .int .i64 E]) ∧ Zs w' vx X ∧ Zs w' vy Y ∧ Below W.heap.size W w') := fun W hB => by
        rw [hX, hY, hE]
        exact rupd_any _ _ a b r W (ha.below hB (Nat.le_refl _)) (hb.below hB (Nat.le_refl _)) (by omega) (by omega)
      have HW : Hid (∀ W, Below w.heap.size w W → Calls Tryd.prog 16 #[] W fun r w' => r = .returned (.bool true) ∧ Below W.heap.size W w') := fun W hb => eawake W (hR.below hb hz) (Nat.lt_of_lt_of_le hz hb.size)
      have hEE : (E == E) = true := by simp
      clear hX hY hE ha hb hR
      go_enter Tryd.func5, Tryd.ntmps5
      go_wp2_with fail
      refine HU1.out.mono ?_
      rintro e w3 ⟨vx, vy, rfl, hzx, hzy, hb3⟩
      obtain ⟨Ax, cx, rfl⟩ := zs_form hzx
      obtain ⟨Ay, cy, rfl⟩ := zs_form hzy
      have HZX := Lib.hid hzx
      have HZY := Lib.hid hzy
      have HB3 := Lib.hid hb3
      clear hzx hzy hb3
      go_wp2_with fail
      refine (HU2.out _ HB3.out).mono ?_
      rintro e w4 ⟨vp, vq, rfl, hzp, hzq, hb4⟩
      obtain ⟨Ap, cp, rfl⟩ := zs_form hzp
      obtain ⟨Aq, cq, rfl⟩ := zs_form hzq
      have HZX4 : Hid (Zs w4 (.slice Ax X.length cx) X) := HZX.out.below hb4 (Nat.le_refl _)
      have HZY4 : Hid (Zs w4 (.slice Ay Y.length cy) Y) := HZY.out.below hb4 (Nat.le_refl _)
      have HZP4 := Lib.hid hzp
      have HZQ4 := Lib.hid hzq
      have HB4 : Hid (Below w.heap.size w w4) := HB3.out.trans (hb4.mono HB3.out.size)
      clear hzp hzq hb4 HZX HZY
      go_wp2_with fail
      refine (same_eq _ _ X w4 HZX4.out HZP4.out HXL.out).mono ?_
      rintro e w5 ⟨rfl, hb5⟩
      have HZY5 : Hid (Zs w5 (.slice Ay Y.length cy) Y) := HZY4.out.below hb5 (Nat.le_refl _)
      have HZP5 : Hid (Zs w5 (.slice Aq Y.length cq) Y) := HZQ4.out.below hb5 (Nat.le_refl _)
      have HB5 : Hid (Below w.heap.size w w5) := HB4.out.trans (hb5.mono HB4.out.size)
      clear hb5
      go_wp2_with fail
      refine (same_eq _ _ Y w5 HZY5.out HZP5.out HYL.out).mono ?_
      rintro e w6 ⟨rfl, hb6⟩
      have HB6 : Hid (Below w.heap.size w w6) := HB5.out.trans (hb6.mono HB5.out.size)
      clear hb6
      go_wp2_with fail
      refine (HW.out _ HB6.out).mono ?_
      rintro e w7 ⟨rfl, hb7⟩
      have HB7 : Hid (Below w.heap.size w w7) := HB6.out.trans (hb7.mono HB6.out.size)
      clear hb7
      go_wp2_with fail
      go_ret
      exact ⟨rfl, HB7.out⟩
end Go.Proofs.YtlkebffainhfaaaDoor
