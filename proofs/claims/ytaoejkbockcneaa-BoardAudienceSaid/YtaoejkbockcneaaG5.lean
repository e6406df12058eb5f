/- Friend: others, by another closure. -/
import Derived.Test.YtaoejkbockcneaaG3
namespace Go.Proofs.Ytaoejkbockcneaa
open Go.RowKit Go.Maps
set_option maxRecDepth 20000
set_option linter.unusedVariables false
set_option linter.unusedSimpArgs false

set_option maxHeartbeats 3000000 in
theorem others_49 (L M a : Nat) (S : Int → Bool → Bool) (D : DataW Unit) (N : Nat → Nat → Int) (w : World) (h : IsG w L M (size D) D) (hN : Rep D N) (hNo : Nok N) (ha : u32ok a) (hs : size D ≤ 1000) (hDj : Dj N a S)
    (HS : Hid (∀ (W : World) (t : Int) (o : Bool), Below w.heap.size w W → Calls Try.prog 71 #[.int .i64 t, .bool o] W fun r w' => r = .returned (.bool (S t o)) ∧ w' = W)) :
    Calls Try.prog 70 #[gp L, u a, .func (.func 71) #[] #[]] w fun r w' => ∃ v ys, r = .returned v ∧ Oth N a S ys ∧ w'.ownsRow w.heap.size 26 1 v ys.length (un ys) ∧ Below w.heap.size w w' := by
  have hML := h.2.lt
  have hown := h.2
  have c1 := cell_of_row w L 0 _ _ _ h.1
  simp at c1
  have HN := Lib.hid hN
  have HNO := Lib.hid hNo
  have HA := Lib.hid ha
  have HDJ := Lib.hid hDj
  have HME := Lib.hid (Met.start hN ha S)
  clear h hN hNo ha hDj
  go_enter Try.func70, Try.ntmps70
  go_wp2_with (first
    | (at_range; refine wpList_range_own _ rfl _ 126 rfl 133 131 K133 Try.underlying126 RT M (size D) _ rfl hown ?_; intro w0 hrg0 hg0 hs0)
    | go_in)
  go_frame
  go_loopw [7] (fun v wr => ∃ (left : Lit → Bool) (c : Nat) (ss : List Nat), wr.ranges Try.prog 133 RT M w.heap.size (size D) D left c ∧ wr.ownsRow w.heap.size 26 1 v ss.length (un ss) ∧ Hid (Met D N a S left ss) ∧ ss.length + c ≤ size D ∧ Below w.heap.size w wr)
    (fun _ wr => wr.rangeLeft M w.heap.size)
  case atStart =>
    exact ⟨_, _, [], hrg0, World.ownsRow_nil _ _ _ _, HME, by simp, (Below.refl _ _).grown hg0 (Nat.le_refl _) (fun j hj => by cases hj)⟩
  case round =>
    obtain ⟨left, c, ss, hrg, hrow, HI, hsc, hnx⟩ := hrel
    go_wp2_with (first
      | (at_next; refine wpList_next_ranges _ rfl _ rfl 133 K133 RT (fun x : Nat × Nat => kV x.1 x.2) (Value.int .i64) (fun key kl hk => by obtain ⟨p, q, _, _, hx, _⟩ := key67_inv hk; exact ⟨(p, q), hx⟩) (fun v y h => RT_shape h) M w.heap.size (size D) _ left c rfl hrg ?_ ?_)
      | go_in)
    · intro hc0 hl0
      have HO := Lib.hid (HI.out.done HNO.out hl0)
      have HX := Lib.hid hnx
      have HSO := Lib.hid (sort_own w.heap.size _ ss wr hrow (by omega))
      clear hnx hl0 hrg hrow hown hrg0 hg0
      go_wp2_with (go_at_call 62; refine HSO.out.mono ?_; rintro e w' ⟨rfl, h1, h2⟩)
      go_ret
      exact ⟨_, sortedN ss, rfl, HO.out, by rw [sorted_len]; exact h1, HX.out.trans h2⟩
    · intro x1 x2 t kl' yd yp w2 cnt2 hkey hlk hv hat hrg2 hlt hg2 hs2 hen
      obtain ⟨p, q, hp, hq, e1, rfl⟩ := key67_inv hkey
      obtain ⟨rfl, rfl⟩ : x1 = p ∧ x2 = q := by
        simp at e1
        omega
      rw [RT_mk] at hv
      injection hv with hv
      injection hv with hv hv2
      rw [← hv] at hat
      have hat0 := hat (tD 0)
      rw [(HN.out x1 x2 hp hq).1] at hat0
      obtain rfl := tD_inj hat0
      have hrow2 := hrow.kept hg2 (Or.inr (row_ne_iter hrow hrg).symm)
      obtain ⟨w3, hw3⟩ : ∃ w3, w3 = w2.alloc (.cells #[u x1, u x2] 133) := ⟨_, rfl⟩
      have hp3 : w3.heap[w2.heap.size]? = some (.cells #[u x1, u x2] 133 (0, 0)) := by rw [hw3]; exact heap_alloc_new w2 _
      have g0 := cell_of_row w3 w2.heap.size 0 _ _ _ hp3
      have g1 := cell_of_row w3 w2.heap.size 1 _ _ _ hp3
      simp at g0 g1
      have hrow3 := hrow2.alloc (.cells #[u x1, u x2] 133)
      rw [← hw3] at hrow3
      have hrg3 := hrg2.alloc (.cells #[u x1, u x2] 133)
      rw [← hw3] at hrg3
      have hb3 : Below w.heap.size w w3 := by rw [hw3]; exact (hnx.grown hg2 hnx.size (fun j hj => by cases hj; exact Nat.le_refl _)).alloc (by have := hnx.size; have := hg2.size; omega) _
      obtain ⟨t, ht⟩ : ∃ t, t = N x1 x2 := ⟨_, rfl⟩
      have HSA : Hid (∀ o, Calls Try.prog 71 #[.int .i64 t, .bool o] w3 fun r w' => r = .returned (.bool (S t o)) ∧ w' = w3) := fun o => HS.out w3 t o hb3
      have HT := Lib.hid ht
      have HKL := Lib.hid hlk
      have HP := Lib.hid (And.intro hp hq)
      have HW3 := Lib.hid hw3
      have HROW := Lib.hid hrow3
      have HRG := Lib.hid hrg3
      have HBW := Lib.hid hb3
      have HNZ : Hid (N x1 x2 ≠ 0) := ((HN.out x1 x2 hp hq).2).1 (has_true_of_atKey (y := tD (N x1 x2)) hat)
      rw [← ht] at hen ⊢
      have hlast := hlt
      clear hv hv2 hw3 hp3 hrow hrow2 hrow3 hrg2 hrg3 hb3 hat hat0 hlk hkey hnx hg2 hs2 hown hrg0 hg0 ht hp hq e1
      by_cases hp : x1 = a
      · subst hp
        cases hc1 : S t true
        · have HC1 := Lib.hid hc1
          clear hc1
          by_cases hq : x2 = x1
          · subst hq
            cases hc2 : S t false
            · have HC2 := Lib.hid hc2
              clear hc2
              have HADD : Hid (Met D N x2 S (fun z => left z && !z.sameKey (kl x2 x2)) ss) := HI.out.skip HA.out HP.out.1 HP.out.2 (by rw [← HT.out, HC1.out]; rintro ⟨_, h⟩; cases h) (by rw [← HT.out, HC2.out]; rintro ⟨_, h⟩; cases h)
              go_upto_region 7 with (fail)
              rw [← HW3.out]
              go_wp2_with fail
              refine (HSA.out true).mono ?_
              rintro r w' ⟨rfl, rfl⟩
              rw [HC1.out]
              go_wp2_with fail
              refine (HSA.out false).mono ?_
              rintro r w' ⟨rfl, rfl⟩
              rw [HC2.out]
              go_wp2
              go_roundw
              case rel => exact ⟨_, cnt2, ss, HRG.out, HROW.out, HADD, by omega, HBW.out⟩
              case measure => rw [HRG.out.left_eq, hrg.left_eq]; exact hlast
            · have HC2 := Lib.hid hc2
              clear hc2
              have HADD : Hid (Met D N x2 S (fun z => left z && !z.sameKey (kl x2 x2)) (ss ++ [x2])) := HI.out.add2 HA.out HP.out.1 HDJ.out HKL.out HNZ.out (by rw [← HT.out, HC1.out]; rintro ⟨_, h⟩; cases h) (by rw [← HT.out]; exact HC2.out)
              go_upto_region 7 with (fail)
              rw [← HW3.out]
              go_wp2_with fail
              refine (HSA.out true).mono ?_
              rintro r w' ⟨rfl, rfl⟩
              rw [HC1.out]
              go_wp2_with fail
              refine (HSA.out false).mono ?_
              rintro r w' ⟨rfl, rfl⟩
              rw [HC2.out]
              go_wp2_with (at_builtin; refine wpList_append_u32 rfl _ _ rfl w.heap.size w'.heap.size _ ss.length (un ss) x2 rfl rfl (HROW.out.alloc _) (heap_alloc_new _ _) (by omega) (by have := HBW.out.size; simp; omega) ?_; intro v' w5 hown5 hg5; go_frame)
              have hrg5 := (HRG.out.alloc _).kept hg5 (row_ne_low HROW.out hML) (row_ne_iter HROW.out HRG.out)
              go_roundw
              case rel =>
                refine ⟨_, cnt2, ss ++ [x2], hrg5, ?_, HADD, by simp; omega, (HBW.out.alloc HBW.out.size _).grown hg5 (by have := HBW.out.size; simp; omega) (fun j hj => (HROW.out.lt j hj).1)⟩
                rw [un_snoc, List.length_append]
                exact hown5
              case measure => rw [hrg5.left_eq, hrg.left_eq]; exact hlast
          · have hqz : ¬ (x2 : Int) = (x1 : Int) := by omega
            have HADD : Hid (Met D N x1 S (fun z => left z && !z.sameKey (kl x1 x2)) ss) := HI.out.skip HA.out HP.out.1 HP.out.2 (by rw [← HT.out, HC1.out]; rintro ⟨_, h⟩; cases h) (fun h => hq h.1)
            go_upto_region 7 with (fail)
            rw [← HW3.out]
            go_wp2_with fail
            refine (HSA.out true).mono ?_
            rintro r w' ⟨rfl, rfl⟩
            rw [HC1.out]
            go_wp2
            go_roundw
            case rel => exact ⟨_, cnt2, ss, HRG.out, HROW.out, HADD, by omega, HBW.out⟩
            case measure => rw [HRG.out.left_eq, hrg.left_eq]; exact hlast
        · have HC1 := Lib.hid hc1
          clear hc1
          have HADD : Hid (Met D N x1 S (fun z => left z && !z.sameKey (kl x1 x2)) (ss ++ [x2])) := HI.out.add1 HA.out HP.out.2 HDJ.out HKL.out HNZ.out (by rw [← HT.out]; exact HC1.out)
          go_upto_region 7 with (fail)
          rw [← HW3.out]
          go_wp2_with fail
          refine (HSA.out true).mono ?_
          rintro r w' ⟨rfl, rfl⟩
          rw [HC1.out]
          go_wp2_with (at_builtin; refine wpList_append_u32 rfl _ _ rfl w.heap.size w'.heap.size _ ss.length (un ss) x2 rfl rfl (HROW.out.alloc _) (heap_alloc_new _ _) (by omega) (by have := HBW.out.size; simp; omega) ?_; intro v' w5 hown5 hg5; go_frame)
          have hrg5 := (HRG.out.alloc _).kept hg5 (row_ne_low HROW.out hML) (row_ne_iter HROW.out HRG.out)
          go_roundw
          case rel =>
            refine ⟨_, cnt2, ss ++ [x2], hrg5, ?_, HADD, by simp; omega, (HBW.out.alloc HBW.out.size _).grown hg5 (by have := HBW.out.size; simp; omega) (fun j hj => (HROW.out.lt j hj).1)⟩
            rw [un_snoc, List.length_append]
            exact hown5
          case measure => rw [hrg5.left_eq, hrg.left_eq]; exact hlast
      · have hpz : ¬ (x1 : Int) = (a : Int) := by omega
        by_cases hq : x2 = a
        · subst hq
          cases hc2 : S t false
          · have HC2 := Lib.hid hc2
            clear hc2
            have HADD : Hid (Met D N x2 S (fun z => left z && !z.sameKey (kl x1 x2)) ss) := HI.out.skip HA.out HP.out.1 HP.out.2 (fun h => hp h.1) (by rw [← HT.out, HC2.out]; rintro ⟨_, h⟩; cases h)
            go_upto_region 7 with (fail)
            rw [← HW3.out]
            go_wp2_with fail
            refine (HSA.out false).mono ?_
            rintro r w' ⟨rfl, rfl⟩
            rw [HC2.out]
            go_wp2
            go_roundw
            case rel => exact ⟨_, cnt2, ss, HRG.out, HROW.out, HADD, by omega, HBW.out⟩
            case measure => rw [HRG.out.left_eq, hrg.left_eq]; exact hlast
          · have HC2 := Lib.hid hc2
            clear hc2
            have HADD : Hid (Met D N x2 S (fun z => left z && !z.sameKey (kl x1 x2)) (ss ++ [x1])) := HI.out.add2 HA.out HP.out.1 HDJ.out HKL.out HNZ.out (fun h => hp h.1) (by rw [← HT.out]; exact HC2.out)
            go_upto_region 7 with (fail)
            rw [← HW3.out]
            go_wp2_with fail
            refine (HSA.out false).mono ?_
            rintro r w' ⟨rfl, rfl⟩
            rw [HC2.out]
            go_wp2_with (at_builtin; refine wpList_append_u32 rfl _ _ rfl w.heap.size w'.heap.size _ ss.length (un ss) x1 rfl rfl (HROW.out.alloc _) (heap_alloc_new _ _) (by omega) (by have := HBW.out.size; simp; omega) ?_; intro v' w5 hown5 hg5; go_frame)
            have hrg5 := (HRG.out.alloc _).kept hg5 (row_ne_low HROW.out hML) (row_ne_iter HROW.out HRG.out)
            go_roundw
            case rel =>
              refine ⟨_, cnt2, ss ++ [x1], hrg5, ?_, HADD, by simp; omega, (HBW.out.alloc HBW.out.size _).grown hg5 (by have := HBW.out.size; simp; omega) (fun j hj => (HROW.out.lt j hj).1)⟩
              rw [un_snoc, List.length_append]
              exact hown5
            case measure => rw [hrg5.left_eq, hrg.left_eq]; exact hlast
        · have hqz : ¬ (x2 : Int) = (a : Int) := by omega
          have HADD : Hid (Met D N a S (fun z => left z && !z.sameKey (kl x1 x2)) ss) := HI.out.skip HA.out HP.out.1 HP.out.2 (fun h => hp h.1) (fun h => hq h.1)
          go_upto_region 7 with (fail)
          rw [← HW3.out]
          go_wp2
          go_roundw
          case rel => exact ⟨_, cnt2, ss, HRG.out, HROW.out, HADD, by omega, HBW.out⟩
          case measure => rw [HRG.out.left_eq, hrg.left_eq]; exact hlast

end Go.Proofs.Ytaoejkbockcneaa
