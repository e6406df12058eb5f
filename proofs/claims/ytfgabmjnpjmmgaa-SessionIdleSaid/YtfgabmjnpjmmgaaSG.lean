/- Session: SessionIdle's walk. -/
import Derived.Test.YtfgabmjnpjmmgaaSF
namespace Go.Proofs.Ytfgabmjnpjmmgaa
open Go.RowKit
set_option maxRecDepth 20000
set_option linter.unusedVariables false
set_option linter.unusedSimpArgs false

theorem idle_one (idle now a : Int) : idleQ idle now ([3].zip [(a, (0 : Int))]) = if addP a idle ≤ now then [3] else [] := by
  unfold idleQ
  by_cases h : addP a idle ≤ now <;> simp [h]

set_option maxHeartbeats 16000000 in
theorem idle_walk (idle at_ now : Int) (w : World) (hi : -9223372036854775808 ≤ idle ∧ idle ≤ 9223372036854775807) (ha : -9223372036854775808 ≤ at_ ∧ at_ ≤ 9223372036854775807) (hn : -9223372036854775808 ≤ now ∧ now ≤ 9223372036854775807) :
    Calls Try.prog 5 #[.int .i64 idle, .int .i64 at_, .int .i64 now] w fun r w' => r = .returned (.bool true) ∧ Below w.heap.size w w' := by
  have HN : Hid (Calls Try.prog 7 #[.int .i64 2, .int .i64 idle] w fun r w' => ∃ T, r = .returned (.pointer (some ⟨T, 0, none⟩)) ∧ Tb w' w.heap.size T idle 2 [] [] ∧ Below w.heap.size w w') := tnew_any 2 idle w
  have HO : Hid (∀ W T, Tb W w.heap.size T idle 2 [] [] → Calls Try.prog 8 #[.pointer (some ⟨T, 0, none⟩), .int .u32 3, .int .i64 at_] W fun r w' => r = .returned (.int .i64 0) ∧ Tb w' w.heap.size T idle 2 [3] [(at_, 0)] ∧ Below w.heap.size W w') := fun W T h =>
    (open_new w.heap.size T idle 2 [] [] 3 at_ W h (by decide) (by simp) (by omega) (by decide)).mono fun r w' ⟨e, ⟨p, hp, ht⟩, hb⟩ => ⟨e, by simpa using ht, hb⟩
  have HI1 : Hid (∀ W T, Tb W w.heap.size T idle 2 [3] [(at_, 0)] → Calls Try.prog 24 #[.pointer (some ⟨T, 0, none⟩), .int .i64 now] W fun r w' => ∃ v', r = .returned v' ∧ w'.ownsRow W.heap.size 28 1 v' (idleQ idle now ([3].zip [(at_, (0 : Int))])).length (un (idleQ idle now ([3].zip [(at_, (0 : Int))]))) ∧ Below W.heap.size W w') := fun W T h =>
    idle_any w.heap.size T idle 2 [3] [(at_, 0)] now W h (by decide) hi.2 (fun y hy => by simp at hy; subst hy; exact ha)
  have HI2 : Hid (∀ W T, Tb W w.heap.size T idle 2 [3] [(now, 0)] → Calls Try.prog 24 #[.pointer (some ⟨T, 0, none⟩), .int .i64 now] W fun r w' => ∃ v', r = .returned v' ∧ w'.ownsRow W.heap.size 28 1 v' (idleQ idle now ([3].zip [(now, (0 : Int))])).length (un (idleQ idle now ([3].zip [(now, (0 : Int))]))) ∧ Below W.heap.size W w') := fun W T h =>
    idle_any w.heap.size T idle 2 [3] [(now, 0)] now W h (by decide) hi.2 (fun y hy => by simp at hy; subst hy; exact hn)
  have HTO : Hid (∀ W T, Below w.heap.size w W → Tb W w.heap.size T idle 2 [3] [(at_, 0)] → Calls Try.prog 16 #[.pointer (some ⟨T, 0, none⟩), .int .u32 3, .int .i64 now] W fun r w' => r = .returned (.int .i64 0) ∧ Tb w' w.heap.size T idle 2 [3] [(now, 0)] ∧ Below w.heap.size W w') := fun W T hW h =>
    (touch_there w.heap.size T idle 2 [3] [(at_, 0)] 3 now W h (by decide) 0 at_ 0 rfl rfl hW.size).mono fun r w' ⟨e, ⟨p, hp, ht⟩, hb⟩ => by
      obtain rfl := one0 hp
      exact ⟨e, ht, hb⟩
  have HAW : Hid (∀ W, Calls Try.prog 19 #[] W fun r w' => r = .returned (.bool true) ∧ Below W.heap.size W w') := fun W => sawake W
  obtain ⟨hi1, hi2⟩ := hi
  obtain ⟨ha1, ha2⟩ := ha
  obtain ⟨hn1, hn2⟩ := hn
  by_cases h1 : at_ ≤ now
  · have hsub : IntKind.u64.wrap (IntKind.u64.wrap now - IntKind.u64.wrap at_) = now - at_ := by rw [IntKind.wrap_u64, IntKind.wrap_u64, IntKind.wrap_u64]; omega
    by_cases h2 : idle ≤ 0
    · have hQ1 : idleQ idle now ([3].zip [(at_, (0 : Int))]) = [3] := by
        rw [idle_one, if_pos (by unfold addP; omega)]
      have hQ2 : idleQ idle now ([3].zip [(now, (0 : Int))]) = [3] := by
        rw [idle_one, if_pos (by unfold addP; omega)]
      have HQ1 := Lib.hid hQ1
      have HQ2 := Lib.hid hQ2
      clear hQ1 hQ2
      go_enter Try.func5, Try.ntmps5
      go_wp2_with fail
      refine HN.out.mono ?_
      rintro r w1 ⟨T, rfl, ht1, hb1⟩
      have HT1 := Lib.hid ht1
      have HB1 := Lib.hid hb1
      clear ht1 hb1
      go_wp2_with fail
      refine (HO.out w1 T HT1.out).mono ?_
      rintro r w2 ⟨rfl, ht2, hb2⟩
      have HT2 := Lib.hid ht2
      have HB2 := Lib.hid (HB1.out.trans hb2)
      clear ht2 hb2
      go_wp2_with fail
      refine (HI1.out w2 T HT2.out).mono ?_
      rintro r w3 ⟨v3, rfl, ho3, hb3⟩
      rw [HQ1.out] at ho3
      have HB3 := Lib.hid (HB2.out.trans (hb3.mono HB2.out.size))
      have HT3 := Lib.hid (HT2.out.after hb3)
      have hs3 := S32.of_own ho3
      obtain ⟨A3, c3, rfl, hs3⟩ := hs3
      have HS3 := Lib.hid hs3
      clear ho3 hb3 hs3
      simp only [List.length_cons, List.length_nil] at HS3 ⊢
      obtain ⟨b3, o3, rfl, hbs, hat⟩ := HS3.out (by decide)
      have hc3 : w3.cell? ⟨b3, o3, none⟩ = some (.int .u32 3) := hat 0 3 rfl
      clear hbs hat
      go_wp2_with fail
      refine (HTO.out w3 T HB3.out HT3.out).mono ?_
      rintro r w4 ⟨rfl, ht4, hb4⟩
      have HT4 := Lib.hid ht4
      have HB4 := Lib.hid (HB3.out.trans hb4)
      clear ht4 hb4 hc3
      go_wp2_with fail
      refine (HI2.out w4 T HT4.out).mono ?_
      rintro r w5 ⟨v5, rfl, ho5, hb5⟩
      rw [HQ2.out] at ho5
      have HB5 := Lib.hid (HB4.out.trans (hb5.mono HB4.out.size))
      obtain ⟨A5, c5, rfl, -⟩ := S32.of_own ho5
      clear ho5 hb5
      simp only [List.length_cons, List.length_nil]
      go_wp2_with fail
      refine (HAW.out w5).mono ?_
      rintro r w6 ⟨rfl, hb6⟩
      have HB6 := Lib.hid (HB5.out.trans (hb6.mono HB5.out.size))
      clear hb6
      go_wp2
      all_goals first | (exfalso; omega) | skip
      all_goals
        go_ret
        exact ⟨by first | rfl | simp [h2] | simp [h2, h3] | (simp [h2, h3]; omega) | (simp [h2]; omega) | (simp; omega), HB6.out⟩
    · have hwi : IntKind.u64.wrap idle = idle := by rw [IntKind.wrap_u64]; omega
      by_cases h3 : idle ≤ now - at_
      · by_cases h4 : now = 9223372036854775807
        · subst h4
          have hsub2 : IntKind.u64.wrap (9223372036854775807 - IntKind.u64.wrap at_) = 9223372036854775807 - at_ := by rw [IntKind.wrap_u64, IntKind.wrap_u64]; omega
          have hQ1 : idleQ idle 9223372036854775807 ([3].zip [(at_, (0 : Int))]) = [3] := by
            rw [idle_one, if_pos (by unfold addP; omega)]
          have hQ2 : idleQ idle 9223372036854775807 ([3].zip [(9223372036854775807, (0 : Int))]) = [3] := by
            rw [idle_one, if_pos (by unfold addP; omega)]
          have HQ1 := Lib.hid hQ1
          have HQ2 := Lib.hid hQ2
          clear hQ1 hQ2
          go_enter Try.func5, Try.ntmps5
          go_wp2_with fail
          refine HN.out.mono ?_
          rintro r w1 ⟨T, rfl, ht1, hb1⟩
          have HT1 := Lib.hid ht1
          have HB1 := Lib.hid hb1
          clear ht1 hb1
          go_wp2_with fail
          refine (HO.out w1 T HT1.out).mono ?_
          rintro r w2 ⟨rfl, ht2, hb2⟩
          have HT2 := Lib.hid ht2
          have HB2 := Lib.hid (HB1.out.trans hb2)
          clear ht2 hb2
          go_wp2_with fail
          refine (HI1.out w2 T HT2.out).mono ?_
          rintro r w3 ⟨v3, rfl, ho3, hb3⟩
          rw [HQ1.out] at ho3
          have HB3 := Lib.hid (HB2.out.trans (hb3.mono HB2.out.size))
          have HT3 := Lib.hid (HT2.out.after hb3)
          have hs3 := S32.of_own ho3
          obtain ⟨A3, c3, rfl, hs3⟩ := hs3
          have HS3 := Lib.hid hs3
          clear ho3 hb3 hs3
          simp only [List.length_cons, List.length_nil] at HS3 ⊢
          obtain ⟨b3, o3, rfl, hbs, hat⟩ := HS3.out (by decide)
          have hc3 : w3.cell? ⟨b3, o3, none⟩ = some (.int .u32 3) := hat 0 3 rfl
          clear hbs hat
          go_wp2_with fail
          refine (HTO.out w3 T HB3.out HT3.out).mono ?_
          rintro r w4 ⟨rfl, ht4, hb4⟩
          have HT4 := Lib.hid ht4
          have HB4 := Lib.hid (HB3.out.trans hb4)
          clear ht4 hb4 hc3
          go_wp2_with fail
          refine (HI2.out w4 T HT4.out).mono ?_
          rintro r w5 ⟨v5, rfl, ho5, hb5⟩
          rw [HQ2.out] at ho5
          have HB5 := Lib.hid (HB4.out.trans (hb5.mono HB4.out.size))
          obtain ⟨A5, c5, rfl, -⟩ := S32.of_own ho5
          clear ho5 hb5
          simp only [List.length_cons, List.length_nil]
          go_wp2_with fail
          refine (HAW.out w5).mono ?_
          rintro r w6 ⟨rfl, hb6⟩
          have HB6 := Lib.hid (HB5.out.trans (hb6.mono HB5.out.size))
          clear hb6
          go_wp2
          all_goals first | (exfalso; omega) | skip
          all_goals
            go_ret
            exact ⟨by first | rfl | simp [h2] | simp [h2, h3] | (simp [h2, h3]; omega) | (simp [h2]; omega) | (simp; omega), HB6.out⟩
        · have hb4 : (now == 9223372036854775807) = false := by simp [h4]
          have hQ1 : idleQ idle now ([3].zip [(at_, (0 : Int))]) = [3] := by
            rw [idle_one, if_pos (by unfold addP; omega)]
          have hQ2 : idleQ idle now ([3].zip [(now, (0 : Int))]) = [] := by
            rw [idle_one, if_neg (by unfold addP; omega)]
          have HQ1 := Lib.hid hQ1
          have HQ2 := Lib.hid hQ2
          clear hQ1 hQ2
          go_enter Try.func5, Try.ntmps5
          go_wp2_with fail
          refine HN.out.mono ?_
          rintro r w1 ⟨T, rfl, ht1, hb1⟩
          have HT1 := Lib.hid ht1
          have HB1 := Lib.hid hb1
          clear ht1 hb1
          go_wp2_with fail
          refine (HO.out w1 T HT1.out).mono ?_
          rintro r w2 ⟨rfl, ht2, hb2⟩
          have HT2 := Lib.hid ht2
          have HB2 := Lib.hid (HB1.out.trans hb2)
          clear ht2 hb2
          go_wp2_with fail
          refine (HI1.out w2 T HT2.out).mono ?_
          rintro r w3 ⟨v3, rfl, ho3, hb3⟩
          rw [HQ1.out] at ho3
          have HB3 := Lib.hid (HB2.out.trans (hb3.mono HB2.out.size))
          have HT3 := Lib.hid (HT2.out.after hb3)
          have hs3 := S32.of_own ho3
          obtain ⟨A3, c3, rfl, hs3⟩ := hs3
          have HS3 := Lib.hid hs3
          clear ho3 hb3 hs3
          simp only [List.length_cons, List.length_nil] at HS3 ⊢
          obtain ⟨b3, o3, rfl, hbs, hat⟩ := HS3.out (by decide)
          have hc3 : w3.cell? ⟨b3, o3, none⟩ = some (.int .u32 3) := hat 0 3 rfl
          clear hbs hat
          go_wp2_with fail
          refine (HTO.out w3 T HB3.out HT3.out).mono ?_
          rintro r w4 ⟨rfl, ht4, hb4⟩
          have HT4 := Lib.hid ht4
          have HB4 := Lib.hid (HB3.out.trans hb4)
          clear ht4 hb4 hc3
          go_wp2_with fail
          refine (HI2.out w4 T HT4.out).mono ?_
          rintro r w5 ⟨v5, rfl, ho5, hb5⟩
          rw [HQ2.out] at ho5
          have HB5 := Lib.hid (HB4.out.trans (hb5.mono HB4.out.size))
          obtain ⟨A5, c5, rfl, -⟩ := S32.of_own ho5
          clear ho5 hb5
          simp only [List.length_cons, List.length_nil]
          go_wp2_with fail
          refine (HAW.out w5).mono ?_
          rintro r w6 ⟨rfl, hb6⟩
          have HB6 := Lib.hid (HB5.out.trans (hb6.mono HB5.out.size))
          clear hb6
          go_wp2
          all_goals first | (exfalso; omega) | skip
          all_goals
            go_ret
            exact ⟨by first | rfl | simp [h2] | simp [h2, h3] | (simp [h2, h3]; omega) | (simp [h2]; omega) | (simp; omega), HB6.out⟩
      · by_cases h4 : now = 9223372036854775807
        · subst h4
          have hsub2 : IntKind.u64.wrap (9223372036854775807 - IntKind.u64.wrap at_) = 9223372036854775807 - at_ := by rw [IntKind.wrap_u64, IntKind.wrap_u64]; omega
          have hQ1 : idleQ idle 9223372036854775807 ([3].zip [(at_, (0 : Int))]) = [3] := by
            rw [idle_one, if_pos (by unfold addP; omega)]
          have hQ2 : idleQ idle 9223372036854775807 ([3].zip [(9223372036854775807, (0 : Int))]) = [3] := by
            rw [idle_one, if_pos (by unfold addP; omega)]
          have HQ1 := Lib.hid hQ1
          have HQ2 := Lib.hid hQ2
          clear hQ1 hQ2
          go_enter Try.func5, Try.ntmps5
          go_wp2_with fail
          refine HN.out.mono ?_
          rintro r w1 ⟨T, rfl, ht1, hb1⟩
          have HT1 := Lib.hid ht1
          have HB1 := Lib.hid hb1
          clear ht1 hb1
          go_wp2_with fail
          refine (HO.out w1 T HT1.out).mono ?_
          rintro r w2 ⟨rfl, ht2, hb2⟩
          have HT2 := Lib.hid ht2
          have HB2 := Lib.hid (HB1.out.trans hb2)
          clear ht2 hb2
          go_wp2_with fail
          refine (HI1.out w2 T HT2.out).mono ?_
          rintro r w3 ⟨v3, rfl, ho3, hb3⟩
          rw [HQ1.out] at ho3
          have HB3 := Lib.hid (HB2.out.trans (hb3.mono HB2.out.size))
          have HT3 := Lib.hid (HT2.out.after hb3)
          have hs3 := S32.of_own ho3
          obtain ⟨A3, c3, rfl, hs3⟩ := hs3
          have HS3 := Lib.hid hs3
          clear ho3 hb3 hs3
          simp only [List.length_cons, List.length_nil] at HS3 ⊢
          obtain ⟨b3, o3, rfl, hbs, hat⟩ := HS3.out (by decide)
          have hc3 : w3.cell? ⟨b3, o3, none⟩ = some (.int .u32 3) := hat 0 3 rfl
          clear hbs hat
          go_wp2_with fail
          refine (HTO.out w3 T HB3.out HT3.out).mono ?_
          rintro r w4 ⟨rfl, ht4, hb4⟩
          have HT4 := Lib.hid ht4
          have HB4 := Lib.hid (HB3.out.trans hb4)
          clear ht4 hb4 hc3
          go_wp2_with fail
          refine (HI2.out w4 T HT4.out).mono ?_
          rintro r w5 ⟨v5, rfl, ho5, hb5⟩
          rw [HQ2.out] at ho5
          have HB5 := Lib.hid (HB4.out.trans (hb5.mono HB4.out.size))
          obtain ⟨A5, c5, rfl, -⟩ := S32.of_own ho5
          clear ho5 hb5
          simp only [List.length_cons, List.length_nil]
          go_wp2_with fail
          refine (HAW.out w5).mono ?_
          rintro r w6 ⟨rfl, hb6⟩
          have HB6 := Lib.hid (HB5.out.trans (hb6.mono HB5.out.size))
          clear hb6
          go_wp2
          all_goals first | (exfalso; omega) | skip
          all_goals
            go_ret
            exact ⟨by first | rfl | simp [h2] | simp [h2, h3] | (simp [h2, h3]; omega) | (simp [h2]; omega) | (simp; omega), HB6.out⟩
        · have hb4 : (now == 9223372036854775807) = false := by simp [h4]
          have hQ1 : idleQ idle now ([3].zip [(at_, (0 : Int))]) = [] := by
            rw [idle_one, if_neg (by unfold addP; omega)]
          have hQ2 : idleQ idle now ([3].zip [(now, (0 : Int))]) = [] := by
            rw [idle_one, if_neg (by unfold addP; omega)]
          have HQ1 := Lib.hid hQ1
          have HQ2 := Lib.hid hQ2
          clear hQ1 hQ2
          go_enter Try.func5, Try.ntmps5
          go_wp2_with fail
          refine HN.out.mono ?_
          rintro r w1 ⟨T, rfl, ht1, hb1⟩
          have HT1 := Lib.hid ht1
          have HB1 := Lib.hid hb1
          clear ht1 hb1
          go_wp2_with fail
          refine (HO.out w1 T HT1.out).mono ?_
          rintro r w2 ⟨rfl, ht2, hb2⟩
          have HT2 := Lib.hid ht2
          have HB2 := Lib.hid (HB1.out.trans hb2)
          clear ht2 hb2
          go_wp2_with fail
          refine (HI1.out w2 T HT2.out).mono ?_
          rintro r w3 ⟨v3, rfl, ho3, hb3⟩
          rw [HQ1.out] at ho3
          have HB3 := Lib.hid (HB2.out.trans (hb3.mono HB2.out.size))
          have HT3 := Lib.hid (HT2.out.after hb3)
          have hs3 := S32.of_own ho3
          obtain ⟨A3, c3, rfl, hs3⟩ := hs3
          have HS3 := Lib.hid hs3
          clear ho3 hb3 hs3
          simp only [List.length_cons, List.length_nil] at HS3 ⊢
          go_wp2_with fail
          refine (HTO.out w3 T HB3.out HT3.out).mono ?_
          rintro r w4 ⟨rfl, ht4, hb4⟩
          have HT4 := Lib.hid ht4
          have HB4 := Lib.hid (HB3.out.trans hb4)
          clear ht4 hb4
          go_wp2_with fail
          refine (HI2.out w4 T HT4.out).mono ?_
          rintro r w5 ⟨v5, rfl, ho5, hb5⟩
          rw [HQ2.out] at ho5
          have HB5 := Lib.hid (HB4.out.trans (hb5.mono HB4.out.size))
          obtain ⟨A5, c5, rfl, -⟩ := S32.of_own ho5
          clear ho5 hb5
          simp only [List.length_cons, List.length_nil]
          go_wp2_with fail
          refine (HAW.out w5).mono ?_
          rintro r w6 ⟨rfl, hb6⟩
          have HB6 := Lib.hid (HB5.out.trans (hb6.mono HB5.out.size))
          clear hb6
          go_wp2
          all_goals first | (exfalso; omega) | skip
          all_goals
            go_ret
            exact ⟨by first | rfl | simp [h2] | simp [h2, h3] | (simp [h2, h3]; omega) | (simp [h2]; omega) | (simp; omega), HB6.out⟩
  · have h4 : ¬ now = 9223372036854775807 := by omega
    have hb4 : (now == 9223372036854775807) = false := by simp [h4]
    by_cases h2 : idle ≤ 0
    · have hQ1 : idleQ idle now ([3].zip [(at_, (0 : Int))]) = [] := by
        rw [idle_one, if_neg (by unfold addP; omega)]
      have hQ2 : idleQ idle now ([3].zip [(now, (0 : Int))]) = [3] := by
        rw [idle_one, if_pos (by unfold addP; omega)]
      have HQ1 := Lib.hid hQ1
      have HQ2 := Lib.hid hQ2
      clear hQ1 hQ2
      go_enter Try.func5, Try.ntmps5
      go_wp2_with fail
      refine HN.out.mono ?_
      rintro r w1 ⟨T, rfl, ht1, hb1⟩
      have HT1 := Lib.hid ht1
      have HB1 := Lib.hid hb1
      clear ht1 hb1
      go_wp2_with fail
      refine (HO.out w1 T HT1.out).mono ?_
      rintro r w2 ⟨rfl, ht2, hb2⟩
      have HT2 := Lib.hid ht2
      have HB2 := Lib.hid (HB1.out.trans hb2)
      clear ht2 hb2
      go_wp2_with fail
      refine (HI1.out w2 T HT2.out).mono ?_
      rintro r w3 ⟨v3, rfl, ho3, hb3⟩
      rw [HQ1.out] at ho3
      have HB3 := Lib.hid (HB2.out.trans (hb3.mono HB2.out.size))
      have HT3 := Lib.hid (HT2.out.after hb3)
      have hs3 := S32.of_own ho3
      obtain ⟨A3, c3, rfl, hs3⟩ := hs3
      have HS3 := Lib.hid hs3
      clear ho3 hb3 hs3
      simp only [List.length_cons, List.length_nil] at HS3 ⊢
      go_wp2_with fail
      refine (HTO.out w3 T HB3.out HT3.out).mono ?_
      rintro r w4 ⟨rfl, ht4, hb4⟩
      have HT4 := Lib.hid ht4
      have HB4 := Lib.hid (HB3.out.trans hb4)
      clear ht4 hb4
      go_wp2_with fail
      refine (HI2.out w4 T HT4.out).mono ?_
      rintro r w5 ⟨v5, rfl, ho5, hb5⟩
      rw [HQ2.out] at ho5
      have HB5 := Lib.hid (HB4.out.trans (hb5.mono HB4.out.size))
      obtain ⟨A5, c5, rfl, -⟩ := S32.of_own ho5
      clear ho5 hb5
      simp only [List.length_cons, List.length_nil]
      go_wp2_with fail
      refine (HAW.out w5).mono ?_
      rintro r w6 ⟨rfl, hb6⟩
      have HB6 := Lib.hid (HB5.out.trans (hb6.mono HB5.out.size))
      clear hb6
      go_wp2
      all_goals first | (exfalso; omega) | skip
      all_goals
        go_ret
        exact ⟨by first | rfl | simp [h2] | simp [h2, h3] | (simp [h2, h3]; omega) | (simp [h2]; omega) | (simp; omega), HB6.out⟩
    · have hQ1 : idleQ idle now ([3].zip [(at_, (0 : Int))]) = [] := by
        rw [idle_one, if_neg (by unfold addP; omega)]
      have hQ2 : idleQ idle now ([3].zip [(now, (0 : Int))]) = [] := by
        rw [idle_one, if_neg (by unfold addP; omega)]
      have HQ1 := Lib.hid hQ1
      have HQ2 := Lib.hid hQ2
      clear hQ1 hQ2
      go_enter Try.func5, Try.ntmps5
      go_wp2_with fail
      refine HN.out.mono ?_
      rintro r w1 ⟨T, rfl, ht1, hb1⟩
      have HT1 := Lib.hid ht1
      have HB1 := Lib.hid hb1
      clear ht1 hb1
      go_wp2_with fail
      refine (HO.out w1 T HT1.out).mono ?_
      rintro r w2 ⟨rfl, ht2, hb2⟩
      have HT2 := Lib.hid ht2
      have HB2 := Lib.hid (HB1.out.trans hb2)
      clear ht2 hb2
      go_wp2_with fail
      refine (HI1.out w2 T HT2.out).mono ?_
      rintro r w3 ⟨v3, rfl, ho3, hb3⟩
      rw [HQ1.out] at ho3
      have HB3 := Lib.hid (HB2.out.trans (hb3.mono HB2.out.size))
      have HT3 := Lib.hid (HT2.out.after hb3)
      have hs3 := S32.of_own ho3
      obtain ⟨A3, c3, rfl, hs3⟩ := hs3
      have HS3 := Lib.hid hs3
      clear ho3 hb3 hs3
      simp only [List.length_cons, List.length_nil] at HS3 ⊢
      go_wp2_with fail
      refine (HTO.out w3 T HB3.out HT3.out).mono ?_
      rintro r w4 ⟨rfl, ht4, hb4⟩
      have HT4 := Lib.hid ht4
      have HB4 := Lib.hid (HB3.out.trans hb4)
      clear ht4 hb4
      go_wp2_with fail
      refine (HI2.out w4 T HT4.out).mono ?_
      rintro r w5 ⟨v5, rfl, ho5, hb5⟩
      rw [HQ2.out] at ho5
      have HB5 := Lib.hid (HB4.out.trans (hb5.mono HB4.out.size))
      obtain ⟨A5, c5, rfl, -⟩ := S32.of_own ho5
      clear ho5 hb5
      simp only [List.length_cons, List.length_nil]
      go_wp2_with fail
      refine (HAW.out w5).mono ?_
      rintro r w6 ⟨rfl, hb6⟩
      have HB6 := Lib.hid (HB5.out.trans (hb6.mono HB5.out.size))
      clear hb6
      go_wp2
      all_goals first | (exfalso; omega) | skip
      all_goals
        go_ret
        exact ⟨by first | rfl | simp [h2] | simp [h2, h3] | (simp [h2, h3]; omega) | (simp [h2]; omega) | (simp; omega), HB6.out⟩
end Go.Proofs.Ytfgabmjnpjmmgaa
