/- Ledger: Spend; calls on nil; awake. -/
import Derived.Test.YticegnbdpihdpaaL2
namespace Go.Proofs.Yticegnbdpihdpaa
open Go.RowKit
set_option maxRecDepth 20000

set_option maxHeartbeats 2000000 in
theorem spend_missing (p : Value) (n o a : Nat) (now : Int) (w : World) (hg : Calls Try.prog 12 #[p, .int .u64 (n : Int)] w fun r w' => r = .returned (.tuple #[eV 0 0 0 0, .bool false]) ∧ Below w.heap.size w w') :
    Calls Try.prog 17 #[p, .int .u64 (n : Int), .int .u32 (o : Int), .int .u32 (a : Int), .int .i64 now] w fun r w' => r = .returned (.int .i64 12) ∧ Below w.heap.size w w' := by
  have HG := Lib.hid hg
  clear hg
  go_enter Try.func17, Try.ntmps17
  go_wp2_with fail
  refine HG.out.mono ?_
  rintro e w1 ⟨rfl, hb1⟩
  go_wp2
  go_ret
  exact ⟨rfl, hb1.alloc hb1.size _⟩

set_option maxHeartbeats 2000000 in
theorem spend_wrong (p : Value) (n o a n' o' a' : Nat) (x now : Int) (w : World) (hne : o' ≠ o) (hg : Calls Try.prog 12 #[p, .int .u64 (n : Int)] w fun r w' => r = .returned (.tuple #[eV n' o' a' x, .bool true]) ∧ Below w.heap.size w w') :
    Calls Try.prog 17 #[p, .int .u64 (n : Int), .int .u32 (o : Int), .int .u32 (a : Int), .int .i64 now] w fun r w' => r = .returned (.int .i64 13) ∧ Below w.heap.size w w' := by
  have t1 : ((o' : Int) != (o : Int)) = true := by rw [bne_iff_ne]; omega
  have HG := Lib.hid hg
  clear hg hne
  go_enter Try.func17, Try.ntmps17
  go_wp2_with fail
  refine HG.out.mono ?_
  rintro e w1 ⟨rfl, hb1⟩
  go_wp2
  go_ret
  exact ⟨rfl, hb1.alloc hb1.size _⟩

set_option maxHeartbeats 4000000 in
theorem spend_ok (L M : Nat) (most : Int) (cnt : Nat) (D : DataW Unit) (n o a n' : Nat) (x now : Int) (w : World) (hL : IsL w L M most cnt D) (hn : n < 18446744073709551616) (hnow : ¬ x < now) (hh : Maps.has D (kl n) = true) (hat : D.atKey (kl n) (eD 0 0 0 0) = eD n' o a x) :
    Calls Try.prog 17 #[.pointer (some ⟨L, 0, none⟩), .int .u64 (n : Int), .int .u32 (o : Int), .int .u32 (a : Int), .int .i64 now] w fun r w' => r = .returned (.int .i64 0) ∧ IsL w' L M most cnt (D.del (kl n)) ∧ ChM M w w' := by
  have HG := Lib.hid (get_any L M most cnt D n n' o a x true w hL hn hh hat)
  have HL := Lib.hid hL
  have g2 : decide (x < now) = false := by rw [decide_eq_false_iff_not]; exact hnow
  have HOL : Hid (∀ W, Calls Try.prog 45 #[eV n' o a x, .int .i64 now] W fun r w' => r = .returned (.bool false) ∧ Below W.heap.size W w') := fun W => by
    rw [← g2]; exact old_any n' o a x now W
  have t1 : ((o : Int) != (o : Int)) = false := bne_self_eq_false _
  have t2 : ((a : Int) != (a : Int)) = false := bne_self_eq_false _
  have HLM : Hid (L ≠ M) := fun e => by
    obtain ⟨h1, es, clock, hm, _⟩ := hL
    rw [e] at h1
    rw [h1] at hm
    cases hm
  have HKEY := Lib.hid (key26 n hn)
  clear hL hn hnow hh hat g2
  go_enter Try.func17, Try.ntmps17
  go_wp2_with fail
  refine HG.out.mono ?_
  rintro e w1 ⟨rfl, hb1⟩
  obtain ⟨w2, hw2⟩ : ∃ w2, w2 = w1.alloc (.cells #[.int .u64 (n' : Int), .int .u32 (o : Int), .int .u32 (a : Int), .int .i64 x] 33) := ⟨_, rfl⟩
  have hb2 : Below w.heap.size w w2 := by rw [hw2]; exact hb1.alloc hb1.size _
  have hq2 : w2.heap[w1.heap.size]? = some (.cells #[.int .u64 (n' : Int), .int .u32 (o : Int), .int .u32 (a : Int), .int .i64 x] 33 (0, 0)) := by rw [hw2]; exact heap_alloc_new w1 _
  have d0 := cell_of_row w2 w1.heap.size 0 _ _ _ hq2
  have d1 := cell_of_row w2 w1.heap.size 1 _ _ _ hq2
  have d2 := cell_of_row w2 w1.heap.size 2 _ _ _ hq2
  have d3 := cell_of_row w2 w1.heap.size 3 _ _ _ hq2
  simp at d0 d1 d2 d3
  have H2 := Lib.hid hw2
  have HB2 := Lib.hid hb2
  clear hw2 hb1 hb2 hq2
  go_upto_region 2 with (fail)
  rw [← H2.out]
  go_wp2_with fail
  refine (HOL.out w2).mono ?_
  rintro e w3 ⟨rfl, hb3⟩
  have HB3 := Lib.hid (HB2.out.trans (hb3.mono HB2.out.size))
  have hl3 := HL.out.below HB3.out
  have c1 := cell_of_row w3 L 1 _ _ _ hl3.1
  simp at c1
  have HO3 := Lib.hid hl3.2
  have HL3 := Lib.hid hl3.1
  clear hb3 hl3 d0 d1 d2 d3
  go_wp2_with (at_delete; refine wpList_delete_own _ rfl _ _ 88 26 rfl 33 K26 Try.underlying88 R M cnt D rfl HO3.out _ _ rfl HKEY.out ?_; intro w4 hown4 hturn4)
  go_ret
  exact ⟨rfl, ⟨(hturn4.grown.block L (lt_of_block HL3.out) (fun e => by injection e with e; exact HLM.out e)).trans HL3.out, hown4⟩, ChM.of_grown HB3.out hturn4.grown⟩

theorem len_nil (w : World) : Calls Try.prog 26 #[.pointer none] w fun r w' => r = .returned (.int .i64 0) ∧ w = w' := by
  go_enter Try.func26, Try.ntmps26
  go_wp2
  go_ret
  exact ⟨rfl, rfl⟩
theorem nonces_nil (w : World) : Calls Try.prog 25 #[.pointer none] w fun r w' => r = .returned (.slice none 0 0) ∧ w = w' := by
  go_enter Try.func25, Try.ntmps25
  go_wp2
  go_ret
  exact ⟨rfl, rfl⟩
theorem sweep_nil (now : Int) (w : World) : Calls Try.prog 21 #[.pointer none, .int .i64 now] w fun r w' => r = .returned (.int .i64 0) ∧ w = w' := by
  go_enter Try.func21, Try.ntmps21
  go_wp2
  go_ret
  exact ⟨rfl, rfl⟩
set_option maxHeartbeats 2000000 in
theorem revoke_nil (b o n : Nat) (w : World) (hb : b < w.heap.size) (hc : w.cell? ⟨b, o, none⟩ = some (.int .u64 (n : Int))) : Calls Try.prog 19 #[.pointer none, .slice (some ⟨b, o, none⟩) 1 1] w fun r w' => r = .returned (.int .i64 0) ∧ Below w.heap.size w w' := by
  have HC : Hid (∀ W, Below w.heap.size w W → W.cell? ⟨b, o, none⟩ = some (.int .u64 (n : Int))) := fun W hW => (hW.cell (p := ⟨b, o, none⟩) hb).trans hc
  clear hc hb
  go_enter Try.func19, Try.ntmps19
  go_wp2_with fail
  refine (len_nil w).mono ?_
  rintro e w1 ⟨rfl, rfl⟩
  go_wp2_with fail
  go_loopw [14] (fun i wr => ∃ k : Nat, k ≤ 1 ∧ i = .int .i64 k ∧ Hid (Below w.heap.size w wr)) (fun i _ => 1 - (intOf i).toNat)
  case atStart => exact ⟨0, by omega, rfl, Below.refl _ _⟩
  case round =>
    obtain ⟨k, hk, rfl, hbw⟩ := hrel
    by_cases hk0 : k = 0
    · subst hk0
      have c0 := HC.out wr hbw.out
      go_wp2_with fail
      refine (get_nil n wr).mono ?_
      rintro e w2 ⟨rfl, hb2⟩
      go_wp2
      go_roundw
      case rel => exact ⟨1, by omega, by go_num, Lib.hid ((hbw.out.trans (hb2.mono hbw.out.size)).alloc (hbw.out.trans (hb2.mono hbw.out.size)).size _)⟩
      case measure => simp [intOf] <;> omega
    · obtain rfl : k = 1 := by omega
      go_wp2_with fail
      refine (len_nil wr).mono ?_
      rintro e w2 ⟨rfl, rfl⟩
      go_wp2
      go_ret
      exact ⟨rfl, hbw.out⟩

set_option maxHeartbeats 4000000 in
theorem lawake (w : World) : Calls Try.prog 24 #[] w fun r w' => r = .returned (.bool true) ∧ Below w.heap.size w w' := by
  have hkey : WideAt.IsKeyLit (kl 5) := K26.key (key26 5 (by decide))
  obtain ⟨D1, hD1⟩ : ∃ D : DataW Unit, D = (DataW.map []).put (kl 5) (eD 5 7 0 9) := ⟨_, rfl⟩
  obtain ⟨D2, hD2⟩ : ∃ D : DataW Unit, D = D1.del (kl 5) := ⟨_, rfl⟩
  have h1 : Maps.has D1 (kl 5) = true := by rw [hD1]; exact Maps.has_put_same Maps.isMap_empty hkey _
  have a1 : D1.atKey (kl 5) (eD 0 0 0 0) = eD 5 7 0 9 := by rw [hD1]; exact Maps.atKey_put_same Maps.isMap_empty hkey _ _
  have h2 : Maps.has D2 (kl 5) = false := by rw [hD2]; exact Maps.has_del_same
  have a2 := Maps.atKey_of_not_has h2 (eD 0 0 0 0)
  have HIS : Hid (∀ W L M, IsL W L M 4 0 (.map []) → Calls Try.prog 15 #[.pointer (some ⟨L, 0, none⟩), .agg #[.int .u64 5, .int .u32 7, .int .u32 0, .int .i64 9], .int .i64 0] W fun r w' => r = .returned (.int .i64 0) ∧ IsL w' L M 4 1 D1 ∧ ChM M W w') := fun W L M h => by
    rw [hD1]
    exact issue_ok L M 4 0 (.map []) 5 7 0 9 0 W h (by decide) (by decide) rfl (by decide) (by decide)
  have HSW : Hid (∀ W L M, IsL W L M 4 1 D1 → Calls Try.prog 17 #[.pointer (some ⟨L, 0, none⟩), .int .u64 5, .int .u32 8, .int .u32 0, .int .i64 0] W fun r w' => r = .returned (.int .i64 13) ∧ Below W.heap.size W w') := fun W L M h =>
    spend_wrong _ 5 8 0 5 7 0 9 0 W (by decide) (get_any L M 4 1 D1 5 5 7 0 9 true W h (by decide) h1 a1)
  have HSO : Hid (∀ W L M, IsL W L M 4 1 D1 → Calls Try.prog 17 #[.pointer (some ⟨L, 0, none⟩), .int .u64 5, .int .u32 7, .int .u32 0, .int .i64 0] W fun r w' => r = .returned (.int .i64 0) ∧ IsL w' L M 4 1 D2 ∧ ChM M W w') := fun W L M h => by
    rw [hD2]
    exact spend_ok L M 4 1 D1 5 7 0 5 9 0 W h (by decide) (by decide) h1 a1
  have HSM : Hid (∀ W L M, IsL W L M 4 1 D2 → Calls Try.prog 17 #[.pointer (some ⟨L, 0, none⟩), .int .u64 5, .int .u32 7, .int .u32 0, .int .i64 0] W fun r w' => r = .returned (.int .i64 12) ∧ Below W.heap.size W w') := fun W L M h =>
    spend_missing _ 5 7 0 0 W (get_any L M 4 1 D2 5 0 0 0 0 false W h (by decide) h2 a2)
  clear hkey hD1 hD2 h1 a1 h2 a2
  go_enter Try.func24, Try.ntmps24
  go_wp2_with fail
  refine (new_any w).mono ?_
  rintro e w1 ⟨rfl, hl1, hb1⟩
  go_wp2_with fail
  refine (HIS.out w1 _ _ hl1).mono ?_
  rintro e w2 ⟨rfl, hl2, hb2⟩
  have HB2 := Lib.hid (hb1.trans (hb2.1 w.heap.size (Nat.le_refl _) hb1.size))
  clear hb2 hb1 hl1
  go_wp2_with fail
  refine (HSW.out w2 _ _ hl2).mono ?_
  rintro e w3 ⟨rfl, hb3⟩
  have hl3 := hl2.below hb3
  have HB3 := Lib.hid (HB2.out.trans (hb3.mono HB2.out.size))
  clear hl2 hb3
  go_wp2_with fail
  refine (HSO.out w3 _ _ hl3).mono ?_
  rintro e w4 ⟨rfl, hl4, hb4⟩
  have HB4 := Lib.hid (HB3.out.trans (hb4.1 w.heap.size (Nat.le_refl _) HB3.out.size))
  clear hb4 hl3
  go_wp2_with fail
  refine (HSM.out w4 _ _ hl4).mono ?_
  rintro e w5 ⟨rfl, hb5⟩
  go_wp2
  go_ret
  exact ⟨rfl, HB4.out.trans (hb5.mono HB4.out.size)⟩
end Go.Proofs.Yticegnbdpihdpaa
