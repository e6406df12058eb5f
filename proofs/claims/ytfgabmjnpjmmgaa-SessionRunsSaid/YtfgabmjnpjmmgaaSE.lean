/- Session: awake. -/
import Derived.Test.YtfgabmjnpjmmgaaSC
namespace Go.Proofs.Ytfgabmjnpjmmgaa
open Go.RowKit
set_option maxRecDepth 20000
set_option linter.unusedVariables false
set_option linter.unusedSimpArgs false

theorem at0 {a b p : Nat} (hab : ¬ a = b) (h : ([a, b] : List Nat)[p]? = some a) : p = 0 := by
  match p, h with
  | 0, _ => rfl
  | 1, h => simp at h; exact absurd h.symm hab
  | p + 2, h => simp at h
theorem one0 {a b p : Nat} (h : ([a] : List Nat)[p]? = some b) : p = 0 := by
  match p, h with
  | 0, _ => rfl
  | p + 1, h => simp at h

set_option maxHeartbeats 4000000 in
theorem sawake (w : World) : Calls Try.prog 19 #[] w fun r w' => r = .returned (.bool true) ∧ Below w.heap.size w w' := by
  have HN : Hid (Calls Try.prog 7 #[.int .i64 4, .int .i64 5] w fun r w' => ∃ T, r = .returned (.pointer (some ⟨T, 0, none⟩)) ∧ Tb w' w.heap.size T 5 4 [] [] ∧ Below w.heap.size w w') := tnew_any 4 5 w
  have HO1 : Hid (∀ W T, Tb W w.heap.size T 5 4 [] [] → Calls Try.prog 8 #[.pointer (some ⟨T, 0, none⟩), .int .u32 1, .int .i64 0] W fun r w' => r = .returned (.int .i64 0) ∧ Tb w' w.heap.size T 5 4 [1] [(0, 0)] ∧ Below w.heap.size W w') := fun W T h =>
    (open_new w.heap.size T 5 4 [] [] 1 0 W h (by decide) (by simp) (by omega) (by decide)).mono fun r w' ⟨e, ⟨p, hp, ht⟩, ⟨hb, _⟩⟩ => ⟨e, by simpa using ht, hb⟩
  have HO2 : Hid (∀ W T, Tb W w.heap.size T 5 4 [1] [(0, 0)] → Calls Try.prog 8 #[.pointer (some ⟨T, 0, none⟩), .int .u32 2, .int .i64 0] W fun r w' => r = .returned (.int .i64 0) ∧ Tb w' w.heap.size T 5 4 [1, 2] [(0, 0), (0, 0)] ∧ Below w.heap.size W w') := fun W T h =>
    (open_new w.heap.size T 5 4 [1] [(0, 0)] 2 0 W h (by decide) (by simp) (by omega) (by decide)).mono fun r w' ⟨e, ⟨p, hp, ht⟩, ⟨hb, _⟩⟩ => by
      have hp1 : p = 1 := by
        have h1 := hp.1
        simp at h1
        by_cases h : p = 0
        · have := hp.2.2 0 1 (by omega) rfl
          omega
        · omega
      subst hp1
      exact ⟨e, ht, hb⟩
  have HL1 : Hid (∀ W T, Below w.heap.size w W → Tb W w.heap.size T 5 4 [1, 2] [(0, 0), (0, 0)] → Calls Try.prog 10 #[.pointer (some ⟨T, 0, none⟩), .int .u32 1, .int .u32 7, .int .i64 0] W fun r w' => r = .returned (.tuple #[.int .u32 0, .int .i64 0]) ∧ Tb w' w.heap.size T 5 4 [1, 2] [(0, 7), (0, 0)] ∧ Below w.heap.size W w') := fun W T hW h =>
    (login_free w.heap.size T 5 4 [1, 2] [(0, 0), (0, 0)] 1 7 0 W h (by decide) 0 0 rfl rfl (by omega) hW.size (by decide)).mono fun r w' ⟨⟨e, p, hp, ht⟩, ⟨hb, _⟩⟩ => by
      obtain rfl := at0 (by decide) hp
      exact ⟨e, ht, hb⟩
  have HL2 : Hid (∀ W T, Below w.heap.size w W → Tb W w.heap.size T 5 4 [1, 2] [(0, 7), (0, 0)] → Calls Try.prog 10 #[.pointer (some ⟨T, 0, none⟩), .int .u32 2, .int .u32 7, .int .i64 0] W fun r w' => r = .returned (.tuple #[.int .u32 1, .int .i64 0]) ∧ Tb w' w.heap.size T 5 4 [2] [(0, 7)] ∧ Below w.heap.size W w') := fun W T hW h =>
    (login_move w.heap.size T 5 4 [1, 2] [(0, 7), (0, 0)] 2 7 1 0 0 W h (by decide) 1 0 rfl rfl (by omega) hW.size (by decide) rfl (by decide)).mono fun r w' ⟨⟨e, p, hp, ht⟩, ⟨hb, _⟩⟩ => by
      obtain rfl := one0 hp
      exact ⟨e, ht, hb⟩
  have HCS : Hid (∀ W T, Tb W w.heap.size T 5 4 [2] [(0, 7)] → Calls Try.prog 23 #[.pointer (some ⟨T, 0, none⟩)] W fun r w' => (∃ A c, r = .returned (.slice A 1 c) ∧ S32 w' (.slice A 1 c) [2]) ∧ Below W.heap.size W w') := fun W T h =>
    (conns_any w.heap.size T 5 4 [2] [(0, 7)] W h (by decide)).mono fun r w' ⟨v', e, ho, hb⟩ => by
      have hs := S32.of_own ho
      obtain ⟨A, c, e2, -⟩ := id hs
      subst e2
      exact ⟨⟨A, c, e, hs⟩, hb⟩
  have HCN : Hid (∀ W T, Tb W w.heap.size T 5 4 [2] [(0, 7)] → Calls Try.prog 20 #[.pointer (some ⟨T, 0, none⟩), .int .u32 7] W fun r w' => r = .returned (.int .u32 2) ∧ Below W.heap.size W w') := fun W T h =>
    conn_any w.heap.size T 5 4 [2] [(0, 7)] 7 W h (by decide) (by decide)
  have HSM : Hid (∀ W v v', S32 W v [2] → S32 W v' [2] → Calls Try.prog 35 #[v, v'] W fun r w' => r = .returned (.bool true) ∧ Below W.heap.size W w') := fun W v v' h1 h2 => same_eq v v' [2] W (by decide) h1 h2
  go_enter Try.func19, Try.ntmps19
  go_wp2_with fail
  refine HN.out.mono ?_
  rintro r w1 ⟨T, rfl, ht1, hb1⟩
  have HT1 := Lib.hid ht1
  have HB1 := Lib.hid hb1
  clear ht1 hb1
  go_wp2_with fail
  refine (HO1.out w1 T HT1.out).mono ?_
  rintro r w2 ⟨rfl, ht2, hb2⟩
  have HT2 := Lib.hid ht2
  have HB2 := Lib.hid (HB1.out.trans hb2)
  clear ht2 hb2
  go_wp2_with fail
  refine (HO2.out w2 T HT2.out).mono ?_
  rintro r w3 ⟨rfl, ht3, hb3⟩
  have HT3 := Lib.hid ht3
  have HB3 := Lib.hid (HB2.out.trans hb3)
  clear ht3 hb3
  go_wp2_with fail
  refine (HL1.out w3 T HB3.out HT3.out).mono ?_
  rintro r w4 ⟨rfl, ht4, hb4⟩
  have HT4 := Lib.hid ht4
  have HB4 := Lib.hid (HB3.out.trans hb4)
  clear ht4 hb4
  go_wp2_with fail
  refine (HL2.out w4 T HB4.out HT4.out).mono ?_
  rintro r w5 ⟨rfl, ht5, hb5⟩
  have HT5 := Lib.hid ht5
  have HB5 := Lib.hid (HB4.out.trans hb5)
  clear ht5 hb5
  go_wp2_with fail
  refine (HCS.out w5 T HT5.out).mono ?_
  rintro r w6 ⟨⟨A, c, rfl, hs⟩, hb6⟩
  have HB6 := Lib.hid (HB5.out.trans (hb6.mono HB5.out.size))
  have HT6 := Lib.hid (HT5.out.after hb6)
  obtain ⟨w7, hw7⟩ : ∃ w7, w7 = w6.alloc (.cells #[.int .u32 2] 28) := ⟨_, rfl⟩
  have hb7 : Below w6.heap.size w6 w7 := by rw [hw7]; exact (Below.refl _ _).alloc (Nat.le_refl _) _
  have hq7 : w7.heap[w6.heap.size]? = some (.cells #[.int .u32 2] 28 (0, 0)) := by rw [hw7]; exact heap_alloc_new w6 _
  have HS7 := Lib.hid (hs.after hb7)
  have HS8 : Hid (S32 w7 (.slice (some ⟨w6.heap.size, 0, none⟩) 1 1) [2]) := ⟨_, 1, rfl, fun _ => ⟨w6.heap.size, 0, rfl, lt_of_block hq7, fun j x hj => by
    match j, hj with
    | 0, hj => simp at hj; subst hj; exact cell_of_row w7 _ 0 _ _ _ hq7
    | j + 1, hj => simp at hj⟩⟩
  have HB7 := Lib.hid (HB6.out.trans (hb7.mono HB6.out.size))
  have HT7 := Lib.hid (HT6.out.after hb7)
  have H7 := Lib.hid hw7
  clear hs hb6 hw7 hb7 hq7
  go_wp2_with fail
  rw [← H7.out]
  refine (HSM.out w7 _ _ HS7.out HS8.out).mono ?_
  rintro r w8 ⟨rfl, hb8⟩
  have HB8 := Lib.hid (HB7.out.trans (hb8.mono HB7.out.size))
  have HT8 := Lib.hid (HT7.out.after hb8)
  clear hb8
  go_wp2_with fail
  refine (HCN.out w8 T HT8.out).mono ?_
  rintro r w9 ⟨rfl, hb9⟩
  have HB9 := Lib.hid (HB8.out.trans (hb9.mono HB8.out.size))
  clear hb9
  go_wp2
  go_ret
  exact ⟨rfl, HB9.out⟩
end Go.Proofs.Ytfgabmjnpjmmgaa
