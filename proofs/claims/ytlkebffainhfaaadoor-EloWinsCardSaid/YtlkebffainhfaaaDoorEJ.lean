/- Elo: who wins never loses points; EloWins' walk. -/
import Derived.Test.YtlkebffainhfaaaDoorEI
namespace Go.Proofs.YtlkebffainhfaaaDoor
open Go.RowKit
set_option maxRecDepth 20000

theorem tdiv_sign (p : Int) : (0 ≤ p → 0 ≤ p.tdiv 1000) ∧ (p ≤ 0 → p.tdiv 1000 ≤ 0) := by
  refine ⟨fun h => ?_, fun h => ?_⟩
  · rw [Int.tdiv_eq_ediv_of_nonneg h]; omega
  · rw [show p = -(-p) by omega, Int.neg_tdiv, Int.tdiv_eq_ediv_of_nonneg (by omega)]; omega
theorem stk_one (a b m : Int) : 0 ≤ stk a b m 1 := by
  unfold stk
  rw [if_pos (by decide)]
  have hs : scr 1 = 1000 := by decide
  have hx := expd_bd (rt a) (rt b)
  have hm := clm_bd m
  rw [hs]
  exact (tdiv_sign _).1 (Int.mul_nonneg (by omega) (by omega))
theorem stk_two (a b m : Int) : stk a b m 2 ≤ 0 := by
  have h := stk_turn b a m 1
  have h1 := stk_one b a m
  have e : trn 1 = 2 := rfl
  rw [e] at h
  omega
theorem stk_zero (a b m : Int) (ha : 0 ≤ a ∧ a ≤ 10000) (hb : 0 ≤ b ∧ b ≤ 10000) : (a ≤ b → 0 ≤ stk a b m 0) ∧ (b ≤ a → stk a b m 0 ≤ 0) := by
  have key : ∀ a b : Int, (0 ≤ a ∧ a ≤ 10000) → (0 ≤ b ∧ b ≤ 10000) → a ≤ b → 0 ≤ stk a b m 0 := fun a b ha hb hab => by
    unfold stk
    rw [if_pos (by decide), rt_id ha.1 ha.2, rt_id hb.1 hb.2]
    have hs : scr 0 = 500 := by decide
    have hm := clm_bd m
    have he : expd a b ≤ 500 := by
      unfold expd
      by_cases h : a < b
      · rw [if_pos h]
        have := rowAt_bd _ (plc_lt (b - a))
        omega
      · rw [if_neg h, show a - b = 0 by omega]
        decide
    rw [hs]
    exact (tdiv_sign _).1 (Int.mul_nonneg (by omega) (by omega))
  refine ⟨key a b ha hb, fun h => ?_⟩
  have h2 := key b a hb ha h
  have h3 := stk_turn a b m 0
  have e : trn 0 = 0 := rfl
  rw [e] at h3
  omega
theorem shr_sign (p m k : Int) : (0 ≤ p → 0 ≤ shr p m k) ∧ (p ≤ 0 → shr p m k ≤ 0) := by
  refine ⟨fun h => ?_, fun h => ?_⟩
  · unfold shr; rw [if_neg (by omega)]; exact (shp_bd p m k h).1
  · have h1 := shr_neg' (-p) m k
    have h2 : 0 ≤ shr (-p) m k := by unfold shr; rw [if_neg (by omega)]; exact (shp_bd (-p) m k (by omega)).1
    rw [Int.neg_neg] at h1
    omega
theorem bhd_ge (p : Int) (l : List Int) (k : Nat) (hk : k < l.length) (hI : 0 ≤ l[k] ∧ l[k] ≤ 10000) (hp : 0 ≤ p) : l[k] ≤ (bhd p l)[k]'(by rw [bhd_length]; exact hk) := by
  rw [bhd_get p l k hk]
  have := (shr_sign p l.length k).1 hp
  have h := rt_mono (n := l[k]) (m := l[k] + shr p l.length k) (by omega)
  rw [rt_id hI.1 hI.2] at h
  exact h
theorem bhd_le (p : Int) (l : List Int) (k : Nat) (hk : k < l.length) (hI : 0 ≤ l[k] ∧ l[k] ≤ 10000) (hp : p ≤ 0) : (bhd p l)[k]'(by rw [bhd_length]; exact hk) ≤ l[k] := by
  rw [bhd_get p l k hk]
  have := (shr_sign p l.length k).2 hp
  have h := rt_mono (n := l[k] + shr p l.length k) (m := l[k]) (by omega)
  rw [rt_id hI.1 hI.2] at h
  exact h

set_option maxHeartbeats 1000000 in
theorem wins_walk (A : Option Addr) (ca : Nat) (a : List Int) (B : Option Addr) (cb : Nat) (b : List Int) (r : Int) (w : World) (hR : Rw w) (hz : 0 < w.heap.size) (ha : Zs w (.slice A a.length ca) a) (hla : a.length ≤ 9223372036854775807) (hb : Zs w (.slice B b.length cb) b) (hlb : b.length ≤ 9223372036854775807) (_hr : -9223372036854775808 ≤ r ∧ r ≤ 9223372036854775807) :
    Calls Tryd.prog 7 #[.slice A a.length ca, .slice B b.length cb, .int .i64 r] w fun e w' => e = .returned (.bool true) ∧ Below w.heap.size w w' := by
  by_cases h1 : 10 < a.length
  · have g1 : 10 < (a.length : Int) := by omega
    go_enter Tryd.func7, Tryd.ntmps7
    go_wp2_with fail
    go_ret
    exact ⟨rfl, Below.refl _ _⟩
  by_cases h2 : 10 < b.length
  · have g1 : ¬ 10 < (a.length : Int) := by omega
    have g2 : 10 < (b.length : Int) := by omega
    go_enter Tryd.func7, Tryd.ntmps7
    go_wp2_with fail
    go_ret
    exact ⟨rfl, Below.refl _ _⟩
  have g1 : ¬ 10 < (a.length : Int) := by omega
  have g2 : ¬ 10 < (b.length : Int) := by omega
  have HT := Lib.hid (tright_any _ _ a b r w ha hb (by omega) (by omega))
  by_cases hE : ¬ updE a b r = 0
  · have hf : (updE a b r == 0) = false := by simpa using hE
    rw [hf] at HT
    clear hE hf
    go_enter Tryd.func7, Tryd.ntmps7
    go_wp2_with fail
    refine HT.out.mono ?_
    rintro e w1 ⟨rfl, hb1⟩
    go_wp2_with fail
    go_ret
    exact ⟨rfl, hb1⟩
  replace hE := Decidable.not_not.1 hE
  have hg := good_of hE
  obtain ⟨s, hs⟩ : ∃ s, s = updS a b r := ⟨_, rfl⟩
  have hX : updA a b r = bhd s a := by unfold updA; rw [if_pos hg, hs]
  have hY : updB a b r = bhd (-s) b := by unfold updB; rw [if_pos hg, hs]
  have ht : (updE a b r == 0) = true := by simpa using hE
  rw [ht] at HT
  have hg' := hg
  unfold good at hg'
  rw [Bool.and_eq_true_iff, Bool.and_eq_true_iff, Bool.and_eq_true_iff, Bool.and_eq_true_iff] at hg'
  obtain ⟨⟨hta, htb⟩, ⟨hir, hka⟩, hkb⟩ := hg'
  have HIA : Hid (∀ k (hk : k < a.length), 0 ≤ a[k] ∧ a[k] ≤ 10000) := (okr_iff a).1 hka
  have HIB : Hid (∀ k (hk : k < b.length), 0 ≤ b[k] ∧ b[k] ≤ 10000) := (okr_iff b).1 hkb
  have hla4 := (tm_iff _).1 hta
  have hlb4 := (tm_iff _).1 htb
  have HU : Hid (∀ W, Below w.heap.size w W → Calls Tryd.prog 19 #[.slice A a.length ca, .slice B b.length cb, .int .i64 r] W fun e w' => ∃ vx vy, e = .returned (.tuple #[vx, vy, .int .i64 0]) ∧ Zs w' vx (bhd s a) ∧ Zs w' vy (bhd (-s) b) ∧ Below W.heap.size W w') := fun W hB => by
    have h := upd_any _ _ a b r W (ha.below hB (Nat.le_refl _)) (hb.below hB (Nat.le_refl _)) (by omega) (by omega) (hR.below hB hz) (Nat.lt_of_lt_of_le hz hB.size)
    unfold UpdPost at h
    rw [hX, hY, hE] at h
    exact h
  have HW : Hid (∀ W, Below w.heap.size w W → Calls Tryd.prog 16 #[] W fun r w' => r = .returned (.bool true) ∧ Below W.heap.size W w') := fun W hb => eawake W (hR.below hb hz) (Nat.lt_of_lt_of_le hz hb.size)
  have HZA := Lib.hid ha
  have HZB := Lib.hid hb
  have hpa : 0 < a.length := by omega
  have hpb : 0 < b.length := by omega
  obtain ⟨b1, o1, rfl, hb1, hc1⟩ := zs_row ha hpa
  obtain ⟨b2, o2, rfl, hb2, hc2⟩ := zs_row hb hpb
  have HC1 := Lib.hid hc1
  have HC2 := Lib.hid hc2
  have HBL1 := Lib.hid hb1
  have HBL2 := Lib.hid hb2
  have HS := Lib.hid hs
  have HIR := Lib.hid hir
  have HMA : Hid (∀ W, Below w.heap.size w W → Calls Tryd.prog 13 #[.slice (some ⟨b1, o1, none⟩) a.length ca] W fun e w' => e = .returned (.int .i64 (meanR a)) ∧ w' = W) := fun W hB => rmean_any _ a W (HZA.out.below hB (Nat.le_refl _)) (by omega)
  have HMB : Hid (∀ W, Below w.heap.size w W → Calls Tryd.prog 13 #[.slice (some ⟨b2, o2, none⟩) b.length cb] W fun e w' => e = .returned (.int .i64 (meanR b)) ∧ w' = W) := fun W hB => rmean_any _ b W (HZB.out.below hB (Nat.le_refl _)) (by omega)
  have hsb := stk_bd (meanR a) (meanR b) ((min a.length b.length : Nat) : Int) r
  have hcase : (r = 1 ∧ 0 ≤ s) ∨ (r = 2 ∧ s ≤ 0) ∨ (r = 0 ∧ meanR a < meanR b ∧ 0 ≤ s) ∨ (r = 0 ∧ meanR a = meanR b ∧ s = 0) ∨ (r = 0 ∧ meanR b < meanR a ∧ s ≤ 0) := by
    rw [hs]
    unfold updS
    rcases isr_cases r with ⟨_, rfl | rfl | rfl⟩ | ⟨h9, _⟩
    · have h9 := stk_zero (meanR a) (meanR b) ((min a.length b.length : Nat) : Int) (meanR_bd a) (meanR_bd b)
      right; right
      rcases (by omega : meanR a < meanR b ∨ meanR a = meanR b ∨ meanR b < meanR a) with g | g | g
      · left; exact ⟨rfl, g, h9.1 (by omega)⟩
      · right; left; exact ⟨rfl, g, by have := h9.1 (by omega); have := h9.2 (by omega); omega⟩
      · right; right; exact ⟨rfl, g, h9.2 (by omega)⟩
    · left; exact ⟨rfl, stk_one _ _ _⟩
    · right; left; exact ⟨rfl, stk_two _ _ _⟩
    · rw [hir] at h9; cases h9
  have hsb2 : -128 ≤ s ∧ s ≤ 128 := by rw [hs]; exact hsb
  clear hsb
  generalize meanR a = ma at *
  generalize meanR b = mb at *
  clear ha hb hc1 hc2 hb1 hb2 hR hX hY hE hg hs ht hka hkb hta htb hir h1 h2
  rcases hcase with ⟨rfl, hs0⟩ | ⟨rfl, hs0⟩ | ⟨rfl, hmm, hs0⟩ | ⟨rfl, hmm, hs0⟩ | ⟨rfl, hmm, hs0⟩
  · go_enter Tryd.func7, Tryd.ntmps7
    go_wp2_with fail
    refine HT.out.mono ?_
    rintro e w1 ⟨rfl, hb1⟩
    have HB1 := Lib.hid hb1
    clear hb1
    go_wp2_with fail
    refine (HU.out _ HB1.out).mono ?_
    rintro e w3 ⟨vx, vy, rfl, hzx, hzy, hb3⟩
    have HB3 : Hid (Below w.heap.size w w3) := HB1.out.trans (hb3.mono HB1.out.size)
    have hlx := bhd_length s a
    have hly := bhd_length (-s) b
    obtain ⟨_, cx, rfl, -, hrx⟩ := hzx
    obtain ⟨_, cy, rfl, -, hry⟩ := hzy
    obtain ⟨bx, ox, rfl, hbx, hcx⟩ := hrx (by rw [hlx]; exact hpa)
    obtain ⟨by2, oy2, rfl, hby, hcy⟩ := hry (by rw [hly]; exact hpb)
    rw [hlx, hly]
    have HCX := Lib.hid hcx
    have HCY := Lib.hid hcy
    have HBX := Lib.hid hbx
    have HBY := Lib.hid hby
    clear hrx hry hcx hcy hbx hby hlx hly hb3
    go_wp2_with fail
    go_loopw [12] (fun i wr => ∃ k : Nat, k ≤ a.length ∧ i = .int .i64 k ∧ Hid (Below w3.heap.size w3 wr)) (fun i _ => a.length - (intOf i).toNat)
    case atStart => exact ⟨0, Nat.zero_le _, rfl, Below.refl _ _⟩
    case round =>
      obtain ⟨k, hk, rfl, HBW⟩ := hrel
      by_cases hlt : k < a.length
      · have hkX : k < (bhd s a).length := by rw [bhd_length]; exact hlt
        have cX : wr.cell? ⟨bx, ox + k, none⟩ = some (.int .i64 (bhd s a)[k]) := (HBW.out.cell (p := ⟨bx, ox + k, none⟩) HBX.out).trans (HCX.out k hkX)
        have cL : wr.cell? ⟨b1, o1 + k, none⟩ = some (.int .i64 a[k]) := (HBW.out.cell (p := ⟨b1, o1 + k, none⟩) (Nat.lt_of_lt_of_le HBL1.out HB3.out.size)).trans ((HB3.out.cell (p := ⟨b1, o1 + k, none⟩) HBL1.out).trans (HC1.out k hlt))
        have hq1 : 0 ≤ s → a[k] ≤ (bhd s a)[k] := bhd_ge s a k hlt (HIA.out k hlt)
        have hq2 : s ≤ 0 → (bhd s a)[k] ≤ a[k] := bhd_le s a k hlt (HIA.out k hlt)
        generalize (bhd s a)[k] = x at *
        generalize a[k] = y at *
        have h0k : (0 : Int) ≤ (k : Int) := by omega
        have h1k : (k : Int) < (a.length : Int) := by omega
        have HQ1 := Lib.hid hq1
        have HQ2 := Lib.hid hq2
        clear hq1 hq2
        try have d1 : decide (x < y) = false := by have := HQ1.out (by omega); simp; omega
        try have d2 : decide (y < x) = false := by have := HQ2.out (by omega); simp; omega
        go_wp2_with fail
        go_quiet (fail)
        go_wp2_with fail
        go_roundw
        case rel => exact ⟨k + 1, by omega, by go_num, below_drewN HBW.out _⟩
        case measure => simp [intOf]; omega
      · obtain rfl : k = a.length := by omega
        obtain ⟨w6, hw6⟩ : ∃ W, W = wr := ⟨_, rfl⟩
        rw [← hw6] at HBW ⊢
        clear hw6
        go_wp2_with fail
        go_loopw [13] (fun i wr => ∃ k : Nat, k ≤ b.length ∧ i = .int .i64 k ∧ Hid (Below w3.heap.size w3 wr)) (fun i _ => b.length - (intOf i).toNat)
        case atStart => exact ⟨0, Nat.zero_le _, rfl, HBW.out⟩
        case round =>
          obtain ⟨k, hk, rfl, HBW2⟩ := hrel
          by_cases hlt : k < b.length
          · have hkX : k < (bhd (-s) b).length := by rw [bhd_length]; exact hlt
            have cX : wr.cell? ⟨by2, oy2 + k, none⟩ = some (.int .i64 (bhd (-s) b)[k]) := (HBW2.out.cell (p := ⟨by2, oy2 + k, none⟩) HBY.out).trans (HCY.out k hkX)
            have cL : wr.cell? ⟨b2, o2 + k, none⟩ = some (.int .i64 b[k]) := (HBW2.out.cell (p := ⟨b2, o2 + k, none⟩) (Nat.lt_of_lt_of_le HBL2.out HB3.out.size)).trans ((HB3.out.cell (p := ⟨b2, o2 + k, none⟩) HBL2.out).trans (HC2.out k hlt))
            have hq1 : 0 ≤ (-s) → b[k] ≤ (bhd (-s) b)[k] := bhd_ge (-s) b k hlt (HIB.out k hlt)
            have hq2 : (-s) ≤ 0 → (bhd (-s) b)[k] ≤ b[k] := bhd_le (-s) b k hlt (HIB.out k hlt)
            generalize (bhd (-s) b)[k] = x at *
            generalize b[k] = y at *
            have h0k : (0 : Int) ≤ (k : Int) := by omega
            have h1k : (k : Int) < (b.length : Int) := by omega
            have HQ1 := Lib.hid hq1
            have HQ2 := Lib.hid hq2
            clear hq1 hq2
            try have d1 : decide (x < y) = false := by have := HQ1.out (by omega); simp; omega
            try have d2 : decide (y < x) = false := by have := HQ2.out (by omega); simp; omega
            go_wp2_with fail
            go_quiet (fail)
            go_wp2_with fail
            go_roundw
            case rel => exact ⟨k + 1, by omega, by go_num, below_drewN HBW2.out _⟩
            case measure => simp [intOf]; omega
          · obtain rfl : k = b.length := by omega
            obtain ⟨w7, hw7⟩ : ∃ W, W = wr := ⟨_, rfl⟩
            rw [← hw7] at HBW2 ⊢
            clear hw7
            have HB7 : Hid (Below w.heap.size w w7) := HB3.out.trans (HBW2.out.mono HB3.out.size)
            go_wp2_with fail
            refine (HW.out _ HB7.out).mono ?_
            rintro e w8 ⟨rfl, hb8⟩
            go_wp2_with fail
            go_ret
            exact ⟨rfl, HB7.out.trans (hb8.mono HB7.out.size)⟩
  · go_enter Tryd.func7, Tryd.ntmps7
    go_wp2_with fail
    refine HT.out.mono ?_
    rintro e w1 ⟨rfl, hb1⟩
    have HB1 := Lib.hid hb1
    clear hb1
    go_wp2_with fail
    refine (HU.out _ HB1.out).mono ?_
    rintro e w3 ⟨vx, vy, rfl, hzx, hzy, hb3⟩
    have HB3 : Hid (Below w.heap.size w w3) := HB1.out.trans (hb3.mono HB1.out.size)
    have hlx := bhd_length s a
    have hly := bhd_length (-s) b
    obtain ⟨_, cx, rfl, -, hrx⟩ := hzx
    obtain ⟨_, cy, rfl, -, hry⟩ := hzy
    obtain ⟨bx, ox, rfl, hbx, hcx⟩ := hrx (by rw [hlx]; exact hpa)
    obtain ⟨by2, oy2, rfl, hby, hcy⟩ := hry (by rw [hly]; exact hpb)
    rw [hlx, hly]
    have HCX := Lib.hid hcx
    have HCY := Lib.hid hcy
    have HBX := Lib.hid hbx
    have HBY := Lib.hid hby
    clear hrx hry hcx hcy hbx hby hlx hly hb3
    go_wp2_with fail
    go_loopw [12] (fun i wr => ∃ k : Nat, k ≤ a.length ∧ i = .int .i64 k ∧ Hid (Below w3.heap.size w3 wr)) (fun i _ => a.length - (intOf i).toNat)
    case atStart => exact ⟨0, Nat.zero_le _, rfl, Below.refl _ _⟩
    case round =>
      obtain ⟨k, hk, rfl, HBW⟩ := hrel
      by_cases hlt : k < a.length
      · have hkX : k < (bhd s a).length := by rw [bhd_length]; exact hlt
        have cX : wr.cell? ⟨bx, ox + k, none⟩ = some (.int .i64 (bhd s a)[k]) := (HBW.out.cell (p := ⟨bx, ox + k, none⟩) HBX.out).trans (HCX.out k hkX)
        have cL : wr.cell? ⟨b1, o1 + k, none⟩ = some (.int .i64 a[k]) := (HBW.out.cell (p := ⟨b1, o1 + k, none⟩) (Nat.lt_of_lt_of_le HBL1.out HB3.out.size)).trans ((HB3.out.cell (p := ⟨b1, o1 + k, none⟩) HBL1.out).trans (HC1.out k hlt))
        have hq1 : 0 ≤ s → a[k] ≤ (bhd s a)[k] := bhd_ge s a k hlt (HIA.out k hlt)
        have hq2 : s ≤ 0 → (bhd s a)[k] ≤ a[k] := bhd_le s a k hlt (HIA.out k hlt)
        generalize (bhd s a)[k] = x at *
        generalize a[k] = y at *
        have h0k : (0 : Int) ≤ (k : Int) := by omega
        have h1k : (k : Int) < (a.length : Int) := by omega
        have HQ1 := Lib.hid hq1
        have HQ2 := Lib.hid hq2
        clear hq1 hq2
        try have d1 : decide (x < y) = false := by have := HQ1.out (by omega); simp; omega
        try have d2 : decide (y < x) = false := by have := HQ2.out (by omega); simp; omega
        go_wp2_with fail
        go_quiet (fail)
        go_wp2_with fail
        go_roundw
        case rel => exact ⟨k + 1, by omega, by go_num, below_drewN HBW.out _⟩
        case measure => simp [intOf]; omega
      · obtain rfl : k = a.length := by omega
        obtain ⟨w6, hw6⟩ : ∃ W, W = wr := ⟨_, rfl⟩
        rw [← hw6] at HBW ⊢
        clear hw6
        go_wp2_with fail
        go_loopw [13] (fun i wr => ∃ k : Nat, k ≤ b.length ∧ i = .int .i64 k ∧ Hid (Below w3.heap.size w3 wr)) (fun i _ => b.length - (intOf i).toNat)
        case atStart => exact ⟨0, Nat.zero_le _, rfl, HBW.out⟩
        case round =>
          obtain ⟨k, hk, rfl, HBW2⟩ := hrel
          by_cases hlt : k < b.length
          · have hkX : k < (bhd (-s) b).length := by rw [bhd_length]; exact hlt
            have cX : wr.cell? ⟨by2, oy2 + k, none⟩ = some (.int .i64 (bhd (-s) b)[k]) := (HBW2.out.cell (p := ⟨by2, oy2 + k, none⟩) HBY.out).trans (HCY.out k hkX)
            have cL : wr.cell? ⟨b2, o2 + k, none⟩ = some (.int .i64 b[k]) := (HBW2.out.cell (p := ⟨b2, o2 + k, none⟩) (Nat.lt_of_lt_of_le HBL2.out HB3.out.size)).trans ((HB3.out.cell (p := ⟨b2, o2 + k, none⟩) HBL2.out).trans (HC2.out k hlt))
            have hq1 : 0 ≤ (-s) → b[k] ≤ (bhd (-s) b)[k] := bhd_ge (-s) b k hlt (HIB.out k hlt)
            have hq2 : (-s) ≤ 0 → (bhd (-s) b)[k] ≤ b[k] := bhd_le (-s) b k hlt (HIB.out k hlt)
            generalize (bhd (-s) b)[k] = x at *
            generalize b[k] = y at *
            have h0k : (0 : Int) ≤ (k : Int) := by omega
            have h1k : (k : Int) < (b.length : Int) := by omega
            have HQ1 := Lib.hid hq1
            have HQ2 := Lib.hid hq2
            clear hq1 hq2
            try have d1 : decide (x < y) = false := by have := HQ1.out (by omega); simp; omega
            try have d2 : decide (y < x) = false := by have := HQ2.out (by omega); simp; omega
            go_wp2_with fail
            go_quiet (fail)
            go_wp2_with fail
            go_roundw
            case rel => exact ⟨k + 1, by omega, by go_num, below_drewN HBW2.out _⟩
            case measure => simp [intOf]; omega
          · obtain rfl : k = b.length := by omega
            obtain ⟨w7, hw7⟩ : ∃ W, W = wr := ⟨_, rfl⟩
            rw [← hw7] at HBW2 ⊢
            clear hw7
            have HB7 : Hid (Below w.heap.size w w7) := HB3.out.trans (HBW2.out.mono HB3.out.size)
            go_wp2_with fail
            refine (HW.out _ HB7.out).mono ?_
            rintro e w8 ⟨rfl, hb8⟩
            go_wp2_with fail
            go_ret
            exact ⟨rfl, HB7.out.trans (hb8.mono HB7.out.size)⟩
  · have m1 : decide (ma ≤ mb) = true := by simp; omega
    have m2 : decide (mb ≤ ma) = false := by simp; omega
    clear hmm
    go_enter Tryd.func7, Tryd.ntmps7
    go_wp2_with fail
    refine HT.out.mono ?_
    rintro e w1 ⟨rfl, hb1⟩
    have HB1 := Lib.hid hb1
    clear hb1
    go_wp2_with fail
    refine (HU.out _ HB1.out).mono ?_
    rintro e w3 ⟨vx, vy, rfl, hzx, hzy, hb3⟩
    have HB3 : Hid (Below w.heap.size w w3) := HB1.out.trans (hb3.mono HB1.out.size)
    have hlx := bhd_length s a
    have hly := bhd_length (-s) b
    obtain ⟨_, cx, rfl, -, hrx⟩ := hzx
    obtain ⟨_, cy, rfl, -, hry⟩ := hzy
    obtain ⟨bx, ox, rfl, hbx, hcx⟩ := hrx (by rw [hlx]; exact hpa)
    obtain ⟨by2, oy2, rfl, hby, hcy⟩ := hry (by rw [hly]; exact hpb)
    rw [hlx, hly]
    have HCX := Lib.hid hcx
    have HCY := Lib.hid hcy
    have HBX := Lib.hid hbx
    have HBY := Lib.hid hby
    clear hrx hry hcx hcy hbx hby hlx hly hb3
    go_wp2_with fail
    refine (HMA.out _ HB3.out).mono ?_
    rintro e w3 ⟨rfl, rfl⟩
    go_wp2_with fail
    refine (HMB.out _ HB3.out).mono ?_
    rintro e w3 ⟨rfl, rfl⟩
    go_wp2_with fail
    refine (HMA.out _ HB3.out).mono ?_
    rintro e w3 ⟨rfl, rfl⟩
    go_wp2_with fail
    refine (HMB.out _ HB3.out).mono ?_
    rintro e w3 ⟨rfl, rfl⟩
    go_wp2_with fail
    go_loopw [12] (fun i wr => ∃ k : Nat, k ≤ a.length ∧ i = .int .i64 k ∧ Hid (Below w3.heap.size w3 wr)) (fun i _ => a.length - (intOf i).toNat)
    case atStart => exact ⟨0, Nat.zero_le _, rfl, Below.refl _ _⟩
    case round =>
      obtain ⟨k, hk, rfl, HBW⟩ := hrel
      by_cases hlt : k < a.length
      · have hkX : k < (bhd s a).length := by rw [bhd_length]; exact hlt
        have cX : wr.cell? ⟨bx, ox + k, none⟩ = some (.int .i64 (bhd s a)[k]) := (HBW.out.cell (p := ⟨bx, ox + k, none⟩) HBX.out).trans (HCX.out k hkX)
        have cL : wr.cell? ⟨b1, o1 + k, none⟩ = some (.int .i64 a[k]) := (HBW.out.cell (p := ⟨b1, o1 + k, none⟩) (Nat.lt_of_lt_of_le HBL1.out HB3.out.size)).trans ((HB3.out.cell (p := ⟨b1, o1 + k, none⟩) HBL1.out).trans (HC1.out k hlt))
        have hq1 : 0 ≤ s → a[k] ≤ (bhd s a)[k] := bhd_ge s a k hlt (HIA.out k hlt)
        have hq2 : s ≤ 0 → (bhd s a)[k] ≤ a[k] := bhd_le s a k hlt (HIA.out k hlt)
        generalize (bhd s a)[k] = x at *
        generalize a[k] = y at *
        have h0k : (0 : Int) ≤ (k : Int) := by omega
        have h1k : (k : Int) < (a.length : Int) := by omega
        have HQ1 := Lib.hid hq1
        have HQ2 := Lib.hid hq2
        clear hq1 hq2
        try have d1 : decide (x < y) = false := by have := HQ1.out (by omega); simp; omega
        try have d2 : decide (y < x) = false := by have := HQ2.out (by omega); simp; omega
        go_wp2_with fail
        go_quiet (fail)
        go_wp2_with fail
        go_roundw
        case rel => exact ⟨k + 1, by omega, by go_num, below_drewN HBW.out _⟩
        case measure => simp [intOf]; omega
      · obtain rfl : k = a.length := by omega
        obtain ⟨w6, hw6⟩ : ∃ W, W = wr := ⟨_, rfl⟩
        rw [← hw6] at HBW ⊢
        clear hw6
        go_wp2_with fail
        go_loopw [13] (fun i wr => ∃ k : Nat, k ≤ b.length ∧ i = .int .i64 k ∧ Hid (Below w3.heap.size w3 wr)) (fun i _ => b.length - (intOf i).toNat)
        case atStart => exact ⟨0, Nat.zero_le _, rfl, HBW.out⟩
        case round =>
          obtain ⟨k, hk, rfl, HBW2⟩ := hrel
          by_cases hlt : k < b.length
          · have hkX : k < (bhd (-s) b).length := by rw [bhd_length]; exact hlt
            have cX : wr.cell? ⟨by2, oy2 + k, none⟩ = some (.int .i64 (bhd (-s) b)[k]) := (HBW2.out.cell (p := ⟨by2, oy2 + k, none⟩) HBY.out).trans (HCY.out k hkX)
            have cL : wr.cell? ⟨b2, o2 + k, none⟩ = some (.int .i64 b[k]) := (HBW2.out.cell (p := ⟨b2, o2 + k, none⟩) (Nat.lt_of_lt_of_le HBL2.out HB3.out.size)).trans ((HB3.out.cell (p := ⟨b2, o2 + k, none⟩) HBL2.out).trans (HC2.out k hlt))
            have hq1 : 0 ≤ (-s) → b[k] ≤ (bhd (-s) b)[k] := bhd_ge (-s) b k hlt (HIB.out k hlt)
            have hq2 : (-s) ≤ 0 → (bhd (-s) b)[k] ≤ b[k] := bhd_le (-s) b k hlt (HIB.out k hlt)
            generalize (bhd (-s) b)[k] = x at *
            generalize b[k] = y at *
            have h0k : (0 : Int) ≤ (k : Int) := by omega
            have h1k : (k : Int) < (b.length : Int) := by omega
            have HQ1 := Lib.hid hq1
            have HQ2 := Lib.hid hq2
            clear hq1 hq2
            try have d1 : decide (x < y) = false := by have := HQ1.out (by omega); simp; omega
            try have d2 : decide (y < x) = false := by have := HQ2.out (by omega); simp; omega
            go_wp2_with fail
            go_quiet (fail)
            go_wp2_with fail
            go_roundw
            case rel => exact ⟨k + 1, by omega, by go_num, below_drewN HBW2.out _⟩
            case measure => simp [intOf]; omega
          · obtain rfl : k = b.length := by omega
            obtain ⟨w7, hw7⟩ : ∃ W, W = wr := ⟨_, rfl⟩
            rw [← hw7] at HBW2 ⊢
            clear hw7
            have HB7 : Hid (Below w.heap.size w w7) := HB3.out.trans (HBW2.out.mono HB3.out.size)
            go_wp2_with fail
            refine (HW.out _ HB7.out).mono ?_
            rintro e w8 ⟨rfl, hb8⟩
            go_wp2_with fail
            go_ret
            exact ⟨rfl, HB7.out.trans (hb8.mono HB7.out.size)⟩
  · have m1 : decide (ma ≤ mb) = true := by simp; omega
    have m2 : decide (mb ≤ ma) = true := by simp; omega
    clear hmm
    have hs1 : s ≤ 0 := by omega
    have hs2 : 0 ≤ s := by omega
    clear hs0
    go_enter Tryd.func7, Tryd.ntmps7
    go_wp2_with fail
    refine HT.out.mono ?_
    rintro e w1 ⟨rfl, hb1⟩
    have HB1 := Lib.hid hb1
    clear hb1
    go_wp2_with fail
    refine (HU.out _ HB1.out).mono ?_
    rintro e w3 ⟨vx, vy, rfl, hzx, hzy, hb3⟩
    have HB3 : Hid (Below w.heap.size w w3) := HB1.out.trans (hb3.mono HB1.out.size)
    have hlx := bhd_length s a
    have hly := bhd_length (-s) b
    obtain ⟨_, cx, rfl, -, hrx⟩ := hzx
    obtain ⟨_, cy, rfl, -, hry⟩ := hzy
    obtain ⟨bx, ox, rfl, hbx, hcx⟩ := hrx (by rw [hlx]; exact hpa)
    obtain ⟨by2, oy2, rfl, hby, hcy⟩ := hry (by rw [hly]; exact hpb)
    rw [hlx, hly]
    have HCX := Lib.hid hcx
    have HCY := Lib.hid hcy
    have HBX := Lib.hid hbx
    have HBY := Lib.hid hby
    clear hrx hry hcx hcy hbx hby hlx hly hb3
    go_wp2_with fail
    refine (HMA.out _ HB3.out).mono ?_
    rintro e w3 ⟨rfl, rfl⟩
    go_wp2_with fail
    refine (HMB.out _ HB3.out).mono ?_
    rintro e w3 ⟨rfl, rfl⟩
    go_wp2_with fail
    refine (HMA.out _ HB3.out).mono ?_
    rintro e w3 ⟨rfl, rfl⟩
    go_wp2_with fail
    refine (HMB.out _ HB3.out).mono ?_
    rintro e w3 ⟨rfl, rfl⟩
    go_wp2_with fail
    go_loopw [12] (fun i wr => ∃ k : Nat, k ≤ a.length ∧ i = .int .i64 k ∧ Hid (Below w3.heap.size w3 wr)) (fun i _ => a.length - (intOf i).toNat)
    case atStart => exact ⟨0, Nat.zero_le _, rfl, Below.refl _ _⟩
    case round =>
      obtain ⟨k, hk, rfl, HBW⟩ := hrel
      by_cases hlt : k < a.length
      · have hkX : k < (bhd s a).length := by rw [bhd_length]; exact hlt
        have cX : wr.cell? ⟨bx, ox + k, none⟩ = some (.int .i64 (bhd s a)[k]) := (HBW.out.cell (p := ⟨bx, ox + k, none⟩) HBX.out).trans (HCX.out k hkX)
        have cL : wr.cell? ⟨b1, o1 + k, none⟩ = some (.int .i64 a[k]) := (HBW.out.cell (p := ⟨b1, o1 + k, none⟩) (Nat.lt_of_lt_of_le HBL1.out HB3.out.size)).trans ((HB3.out.cell (p := ⟨b1, o1 + k, none⟩) HBL1.out).trans (HC1.out k hlt))
        have hq1 : 0 ≤ s → a[k] ≤ (bhd s a)[k] := bhd_ge s a k hlt (HIA.out k hlt)
        have hq2 : s ≤ 0 → (bhd s a)[k] ≤ a[k] := bhd_le s a k hlt (HIA.out k hlt)
        generalize (bhd s a)[k] = x at *
        generalize a[k] = y at *
        have h0k : (0 : Int) ≤ (k : Int) := by omega
        have h1k : (k : Int) < (a.length : Int) := by omega
        have HQ1 := Lib.hid hq1
        have HQ2 := Lib.hid hq2
        clear hq1 hq2
        try have d1 : decide (x < y) = false := by have := HQ1.out (by omega); simp; omega
        try have d2 : decide (y < x) = false := by have := HQ2.out (by omega); simp; omega
        go_wp2_with fail
        go_quiet (fail)
        go_wp2_with fail
        go_roundw
        case rel => exact ⟨k + 1, by omega, by go_num, below_drewN HBW.out _⟩
        case measure => simp [intOf]; omega
      · obtain rfl : k = a.length := by omega
        obtain ⟨w6, hw6⟩ : ∃ W, W = wr := ⟨_, rfl⟩
        rw [← hw6] at HBW ⊢
        clear hw6
        go_wp2_with fail
        go_loopw [13] (fun i wr => ∃ k : Nat, k ≤ b.length ∧ i = .int .i64 k ∧ Hid (Below w3.heap.size w3 wr)) (fun i _ => b.length - (intOf i).toNat)
        case atStart => exact ⟨0, Nat.zero_le _, rfl, HBW.out⟩
        case round =>
          obtain ⟨k, hk, rfl, HBW2⟩ := hrel
          by_cases hlt : k < b.length
          · have hkX : k < (bhd (-s) b).length := by rw [bhd_length]; exact hlt
            have cX : wr.cell? ⟨by2, oy2 + k, none⟩ = some (.int .i64 (bhd (-s) b)[k]) := (HBW2.out.cell (p := ⟨by2, oy2 + k, none⟩) HBY.out).trans (HCY.out k hkX)
            have cL : wr.cell? ⟨b2, o2 + k, none⟩ = some (.int .i64 b[k]) := (HBW2.out.cell (p := ⟨b2, o2 + k, none⟩) (Nat.lt_of_lt_of_le HBL2.out HB3.out.size)).trans ((HB3.out.cell (p := ⟨b2, o2 + k, none⟩) HBL2.out).trans (HC2.out k hlt))
            have hq1 : 0 ≤ (-s) → b[k] ≤ (bhd (-s) b)[k] := bhd_ge (-s) b k hlt (HIB.out k hlt)
            have hq2 : (-s) ≤ 0 → (bhd (-s) b)[k] ≤ b[k] := bhd_le (-s) b k hlt (HIB.out k hlt)
            generalize (bhd (-s) b)[k] = x at *
            generalize b[k] = y at *
            have h0k : (0 : Int) ≤ (k : Int) := by omega
            have h1k : (k : Int) < (b.length : Int) := by omega
            have HQ1 := Lib.hid hq1
            have HQ2 := Lib.hid hq2
            clear hq1 hq2
            try have d1 : decide (x < y) = false := by have := HQ1.out (by omega); simp; omega
            try have d2 : decide (y < x) = false := by have := HQ2.out (by omega); simp; omega
            go_wp2_with fail
            go_quiet (fail)
            go_wp2_with fail
            go_roundw
            case rel => exact ⟨k + 1, by omega, by go_num, below_drewN HBW2.out _⟩
            case measure => simp [intOf]; omega
          · obtain rfl : k = b.length := by omega
            obtain ⟨w7, hw7⟩ : ∃ W, W = wr := ⟨_, rfl⟩
            rw [← hw7] at HBW2 ⊢
            clear hw7
            have HB7 : Hid (Below w.heap.size w w7) := HB3.out.trans (HBW2.out.mono HB3.out.size)
            go_wp2_with fail
            refine (HW.out _ HB7.out).mono ?_
            rintro e w8 ⟨rfl, hb8⟩
            go_wp2_with fail
            go_ret
            exact ⟨rfl, HB7.out.trans (hb8.mono HB7.out.size)⟩
  · have m1 : decide (ma ≤ mb) = false := by simp; omega
    have m2 : decide (mb ≤ ma) = true := by simp; omega
    clear hmm
    go_enter Tryd.func7, Tryd.ntmps7
    go_wp2_with fail
    refine HT.out.mono ?_
    rintro e w1 ⟨rfl, hb1⟩
    have HB1 := Lib.hid hb1
    clear hb1
    go_wp2_with fail
    refine (HU.out _ HB1.out).mono ?_
    rintro e w3 ⟨vx, vy, rfl, hzx, hzy, hb3⟩
    have HB3 : Hid (Below w.heap.size w w3) := HB1.out.trans (hb3.mono HB1.out.size)
    have hlx := bhd_length s a
    have hly := bhd_length (-s) b
    obtain ⟨_, cx, rfl, -, hrx⟩ := hzx
    obtain ⟨_, cy, rfl, -, hry⟩ := hzy
    obtain ⟨bx, ox, rfl, hbx, hcx⟩ := hrx (by rw [hlx]; exact hpa)
    obtain ⟨by2, oy2, rfl, hby, hcy⟩ := hry (by rw [hly]; exact hpb)
    rw [hlx, hly]
    have HCX := Lib.hid hcx
    have HCY := Lib.hid hcy
    have HBX := Lib.hid hbx
    have HBY := Lib.hid hby
    clear hrx hry hcx hcy hbx hby hlx hly hb3
    go_wp2_with fail
    refine (HMA.out _ HB3.out).mono ?_
    rintro e w3 ⟨rfl, rfl⟩
    go_wp2_with fail
    refine (HMB.out _ HB3.out).mono ?_
    rintro e w3 ⟨rfl, rfl⟩
    go_wp2_with fail
    refine (HMA.out _ HB3.out).mono ?_
    rintro e w3 ⟨rfl, rfl⟩
    go_wp2_with fail
    refine (HMB.out _ HB3.out).mono ?_
    rintro e w3 ⟨rfl, rfl⟩
    go_wp2_with fail
    go_loopw [12] (fun i wr => ∃ k : Nat, k ≤ a.length ∧ i = .int .i64 k ∧ Hid (Below w3.heap.size w3 wr)) (fun i _ => a.length - (intOf i).toNat)
    case atStart => exact ⟨0, Nat.zero_le _, rfl, Below.refl _ _⟩
    case round =>
      obtain ⟨k, hk, rfl, HBW⟩ := hrel
      by_cases hlt : k < a.length
      · have hkX : k < (bhd s a).length := by rw [bhd_length]; exact hlt
        have cX : wr.cell? ⟨bx, ox + k, none⟩ = some (.int .i64 (bhd s a)[k]) := (HBW.out.cell (p := ⟨bx, ox + k, none⟩) HBX.out).trans (HCX.out k hkX)
        have cL : wr.cell? ⟨b1, o1 + k, none⟩ = some (.int .i64 a[k]) := (HBW.out.cell (p := ⟨b1, o1 + k, none⟩) (Nat.lt_of_lt_of_le HBL1.out HB3.out.size)).trans ((HB3.out.cell (p := ⟨b1, o1 + k, none⟩) HBL1.out).trans (HC1.out k hlt))
        have hq1 : 0 ≤ s → a[k] ≤ (bhd s a)[k] := bhd_ge s a k hlt (HIA.out k hlt)
        have hq2 : s ≤ 0 → (bhd s a)[k] ≤ a[k] := bhd_le s a k hlt (HIA.out k hlt)
        generalize (bhd s a)[k] = x at *
        generalize a[k] = y at *
        have h0k : (0 : Int) ≤ (k : Int) := by omega
        have h1k : (k : Int) < (a.length : Int) := by omega
        have HQ1 := Lib.hid hq1
        have HQ2 := Lib.hid hq2
        clear hq1 hq2
        try have d1 : decide (x < y) = false := by have := HQ1.out (by omega); simp; omega
        try have d2 : decide (y < x) = false := by have := HQ2.out (by omega); simp; omega
        go_wp2_with fail
        go_quiet (fail)
        go_wp2_with fail
        go_roundw
        case rel => exact ⟨k + 1, by omega, by go_num, below_drewN HBW.out _⟩
        case measure => simp [intOf]; omega
      · obtain rfl : k = a.length := by omega
        obtain ⟨w6, hw6⟩ : ∃ W, W = wr := ⟨_, rfl⟩
        rw [← hw6] at HBW ⊢
        clear hw6
        go_wp2_with fail
        go_loopw [13] (fun i wr => ∃ k : Nat, k ≤ b.length ∧ i = .int .i64 k ∧ Hid (Below w3.heap.size w3 wr)) (fun i _ => b.length - (intOf i).toNat)
        case atStart => exact ⟨0, Nat.zero_le _, rfl, HBW.out⟩
        case round =>
          obtain ⟨k, hk, rfl, HBW2⟩ := hrel
          by_cases hlt : k < b.length
          · have hkX : k < (bhd (-s) b).length := by rw [bhd_length]; exact hlt
            have cX : wr.cell? ⟨by2, oy2 + k, none⟩ = some (.int .i64 (bhd (-s) b)[k]) := (HBW2.out.cell (p := ⟨by2, oy2 + k, none⟩) HBY.out).trans (HCY.out k hkX)
            have cL : wr.cell? ⟨b2, o2 + k, none⟩ = some (.int .i64 b[k]) := (HBW2.out.cell (p := ⟨b2, o2 + k, none⟩) (Nat.lt_of_lt_of_le HBL2.out HB3.out.size)).trans ((HB3.out.cell (p := ⟨b2, o2 + k, none⟩) HBL2.out).trans (HC2.out k hlt))
            have hq1 : 0 ≤ (-s) → b[k] ≤ (bhd (-s) b)[k] := bhd_ge (-s) b k hlt (HIB.out k hlt)
            have hq2 : (-s) ≤ 0 → (bhd (-s) b)[k] ≤ b[k] := bhd_le (-s) b k hlt (HIB.out k hlt)
            generalize (bhd (-s) b)[k] = x at *
            generalize b[k] = y at *
            have h0k : (0 : Int) ≤ (k : Int) := by omega
            have h1k : (k : Int) < (b.length : Int) := by omega
            have HQ1 := Lib.hid hq1
            have HQ2 := Lib.hid hq2
            clear hq1 hq2
            try have d1 : decide (x < y) = false := by have := HQ1.out (by omega); simp; omega
            try have d2 : decide (y < x) = false := by have := HQ2.out (by omega); simp; omega
            go_wp2_with fail
            go_quiet (fail)
            go_wp2_with fail
            go_roundw
            case rel => exact ⟨k + 1, by omega, by go_num, below_drewN HBW2.out _⟩
            case measure => simp [intOf]; omega
          · obtain rfl : k = b.length := by omega
            obtain ⟨w7, hw7⟩ : ∃ W, W = wr := ⟨_, rfl⟩
            rw [← hw7] at HBW2 ⊢
            clear hw7
            have HB7 : Hid (Below w.heap.size w w7) := HB3.out.trans (HBW2.out.mono HB3.out.size)
            go_wp2_with fail
            refine (HW.out _ HB7.out).mono ?_
            rintro e w8 ⟨rfl, hb8⟩
            go_wp2_with fail
            go_ret
            exact ⟨rfl, HB7.out.trans (hb8.mono HB7.out.size)⟩
end Go.Proofs.YtlkebffainhfaaaDoor
