/- Elo: what is won is lost; EloZero's walk. -/
import Derived.Test.YtlkebffainhfaaaDoorEE
import Derived.Test.YtlkebffainhfaaaDoorEG
namespace Go.Proofs.YtlkebffainhfaaaDoor
open Go.RowKit
set_option maxRecDepth 20000

theorem good_of {a b : List Int} {r : Int} (h : updE a b r = 0) : good a b r = true := by
  unfold updE at h
  unfold good
  cases h1 : tm a.length <;> cases h2 : tm b.length <;> cases h3 : isr r <;> cases h4 : okr a <;> cases h5 : okr b <;> simp [h1, h2, h3, h4, h5] at h ⊢
set_option maxHeartbeats 400000 in
theorem tright_any (va vb : Value) (a b : List Int) (r : Int) (w : World) (ha : Zs w va a) (hb : Zs w vb b) (hna : a.length ≤ 1000) (hnb : b.length ≤ 1000) :
    Calls Tryd.prog 22 #[va, vb, .int .i64 r] w fun e w' => e = .returned (.bool (updE a b r == 0)) ∧ Below w.heap.size w w' := by
  have HU := Lib.hid (rupd_any va vb a b r w ha hb hna hnb)
  obtain ⟨A, c, rfl⟩ := zs_form ha
  obtain ⟨B, d, rfl⟩ := zs_form hb
  clear ha hb
  go_enter Tryd.func22, Tryd.ntmps22
  go_wp2_with fail
  refine HU.out.mono ?_
  rintro e w1 ⟨vx, vy, rfl, hx, hy, hb1⟩
  obtain ⟨Ax, cx, rfl⟩ := zs_form hx
  obtain ⟨Ay, cy, rfl⟩ := zs_form hy
  clear hx hy
  go_wp2_with fail
  go_ret
  exact ⟨rfl, hb1⟩
theorem zs_row {w : World} {A : Option Addr} {c : Nat} {l : List Int} (h : Zs w (.slice A l.length c) l) (hp : 0 < l.length) : ∃ b o, A = some ⟨b, o, none⟩ ∧ b < w.heap.size ∧ ∀ j (hj : j < l.length), w.cell? ⟨b, o + j, none⟩ = some (.int .i64 l[j]) := by
  obtain ⟨A', c', e, _, hr⟩ := h
  injection e with e1 _ _
  subst e1
  exact hr hp
/-- The differences ahead of a place, and whether one came to an end. -/
def dif (X a : List Int) : Nat → Int
  | 0 => 0
  | k + 1 => dif X a k + (X.getD k 0 - a.getD k 0)
def enB (e : Bool) (X : List Int) : Nat → Bool
  | 0 => e
  | k + 1 => enB e X k || (X.getD k 0 == 0 || X.getD k 0 == 10000)
theorem dif_succ (X a : List Int) (k : Nat) : dif X a (k + 1) = dif X a k + (X.getD k 0 - a.getD k 0) := rfl
theorem enB_succ (e : Bool) (X : List Int) (k : Nat) : enB e X (k + 1) = (enB e X k || (X.getD k 0 == 0 || X.getD k 0 == 10000)) := rfl
theorem enB_false {e : Bool} {X : List Int} {k : Nat} (h : enB e X k = false) : e = false ∧ ∀ j, j < k → X.getD j 0 ≠ 0 ∧ X.getD j 0 ≠ 10000 := by
  induction k with
  | zero => exact ⟨h, fun j hj => absurd hj (Nat.not_lt_zero _)⟩
  | succ k ih =>
    unfold enB at h
    rw [Bool.or_eq_false_iff, Bool.or_eq_false_iff] at h
    obtain ⟨h1, h2, h3⟩ := h
    obtain ⟨i1, i2⟩ := ih h1
    refine ⟨i1, fun j hj => ?_⟩
    rcases (by omega : j < k ∨ j = k) with hj | rfl
    · exact i2 j hj
    · exact ⟨by simpa using h2, by simpa using h3⟩
theorem dif_sum (p : Int) (l : List Int) (k : Nat) (hk : k ≤ l.length) (h : ∀ j, j < k → (bhd p l).getD j 0 ≠ 0 ∧ (bhd p l).getD j 0 ≠ 10000) : dif (bhd p l) l k = sumS p l.length k := by
  induction k with
  | zero => rfl
  | succ k ih =>
    unfold dif sumS
    rw [ih (by omega) (fun j hj => h j (by omega))]
    have h2 := h k (by omega)
    have hk2 : k < l.length := by omega
    have e1 : (bhd p l).getD k 0 = rt (l[k] + shr p l.length k) := by
      rw [List.getD_eq_getElem?_getD, List.getElem?_eq_getElem (by rw [bhd_length]; exact hk2), Option.getD_some, bhd_get p l k hk2]
    have e2 : l.getD k 0 = l[k] := by
      rw [List.getD_eq_getElem?_getD, List.getElem?_eq_getElem hk2, Option.getD_some]
    rw [e1] at h2
    rw [e1, e2]
    have e3 : rt (l[k] + shr p l.length k) = l[k] + shr p l.length k := by
      unfold rt at h2 ⊢
      split
      · rename_i g; rw [if_pos g] at h2; omega
      · rename_i g
        rw [if_neg g] at h2
        split
        · rename_i g2; rw [if_pos g2] at h2; omega
        · rfl
    rw [e3]
    omega
theorem zero_sum (s : Int) (a b : List Int) (ha : 0 < a.length) (hb : 0 < b.length) (h : enB (enB false (bhd s a) a.length) (bhd (-s) b) b.length = false) : dif (bhd s a) a a.length + dif (bhd (-s) b) b b.length = 0 := by
  obtain ⟨h1, h2⟩ := enB_false h
  obtain ⟨-, h3⟩ := enB_false h1
  rw [dif_sum s a _ (Nat.le_refl _) h3, dif_sum (-s) b _ (Nat.le_refl _) h2, sumS_all s a.length ha, sumS_all (-s) b.length hb]
  omega
theorem bhd_bd (p : Int) (l : List Int) (k : Nat) (hk : k < l.length) : 0 ≤ (bhd p l)[k]'(by rw [bhd_length]; exact hk) ∧ (bhd p l)[k]'(by rw [bhd_length]; exact hk) ≤ 10000 := by
  rw [bhd_get p l k hk]
  exact rt_bd _
theorem getD_of {l : List Int} {k : Nat} (hk : k < l.length) : l.getD k 0 = l[k] := by
  rw [List.getD_eq_getElem?_getD, List.getElem?_eq_getElem hk, Option.getD_some]
theorem dif_bd (p : Int) (l : List Int) (hI : ∀ k (hk : k < l.length), 0 ≤ l[k] ∧ l[k] ≤ 10000) (k : Nat) (hk : k ≤ l.length) : -(10000 * (k : Int)) ≤ dif (bhd p l) l k ∧ dif (bhd p l) l k ≤ 10000 * (k : Int) := by
  induction k with
  | zero => simp [dif]
  | succ k ih =>
    have := ih (by omega)
    have h1 := bhd_bd p l k (by omega)
    have h2 := hI k (by omega)
    unfold dif
    rw [getD_of (show k < (bhd p l).length by rw [bhd_length]; omega), getD_of (show k < l.length by omega)]
    push_cast
    omega

set_option maxHeartbeats 4000000 in
theorem zero_walk (A : Option Addr) (ca : Nat) (a : List Int) (B : Option Addr) (cb : Nat) (b : List Int) (r : Int) (w : World) (hR : Rw w) (hz : 0 < w.heap.size) (ha : Zs w (.slice A a.length ca) a) (hla : a.length ≤ 9223372036854775807) (hb : Zs w (.slice B b.length cb) b) (hlb : b.length ≤ 9223372036854775807) (_hr : -9223372036854775808 ≤ r ∧ r ≤ 9223372036854775807) :
    Calls Tryd.prog 6 #[.slice A a.length ca, .slice B b.length cb, .int .i64 r] w fun e w' => e = .returned (.bool true) ∧ Below w.heap.size w w' := by
  by_cases h1 : 10 < a.length
  · have g1 : 10 < (a.length : Int) := by omega
    go_enter Tryd.func6, Tryd.ntmps6
    go_wp2_with fail
    go_ret
    exact ⟨rfl, Below.refl _ _⟩
  by_cases h2 : 10 < b.length
  · have g1 : ¬ 10 < (a.length : Int) := by omega
    have g2 : 10 < (b.length : Int) := by omega
    go_enter Tryd.func6, Tryd.ntmps6
    go_wp2_with fail
    go_ret
    exact ⟨rfl, Below.refl _ _⟩
  have g1 : ¬ 10 < (a.length : Int) := by omega
  have g2 : ¬ 10 < (b.length : Int) := by omega
  have HT := Lib.hid (tright_any _ _ a b r w ha hb (by omega) (by omega))
  by_cases hE : ¬ updE a b r = 0
  · have hf : (updE a b r == 0) = false := by simpa using hE
    rw [hf] at HT
    clear hE hf
    go_enter Tryd.func6, Tryd.ntmps6
    go_wp2_with fail
    refine HT.out.mono ?_
    rintro e w1 ⟨rfl, hb1⟩
    go_wp2_with fail
    go_ret
    exact ⟨rfl, hb1⟩
  replace hE := Decidable.not_not.1 hE
  have hg := good_of hE
  obtain ⟨s, hs⟩ : ∃ s, s = updS a b r := ⟨_, rfl⟩
  have hX : updA a b r = bhd s a := by unfold updA; rw [if_pos hg, hs]
  have hY : updB a b r = bhd (-s) b := by unfold updB; rw [if_pos hg, hs]
  have ht : (updE a b r == 0) = true := by simpa using hE
  rw [ht] at HT
  have hg' := hg
  unfold good at hg'
  rw [Bool.and_eq_true_iff, Bool.and_eq_true_iff, Bool.and_eq_true_iff, Bool.and_eq_true_iff] at hg'
  obtain ⟨⟨hta, htb⟩, ⟨hir, hka⟩, hkb⟩ := hg'
  have HIA : Hid (∀ k (hk : k < a.length), 0 ≤ a[k] ∧ a[k] ≤ 10000) := (okr_iff a).1 hka
  have HIB : Hid (∀ k (hk : k < b.length), 0 ≤ b[k] ∧ b[k] ≤ 10000) := (okr_iff b).1 hkb
  have hla4 := (tm_iff _).1 hta
  have hlb4 := (tm_iff _).1 htb
  have HU : Hid (∀ W, Below w.heap.size w W → Calls Tryd.prog 19 #[.slice A a.length ca, .slice B b.length cb, .int .i64 r] W fun e w' => ∃ vx vy, e = .returned (.tuple #[vx, vy, .int .i64 0]) ∧ Zs w' vx (bhd s a) ∧ Zs w' vy (bhd (-s) b) ∧ Below W.heap.size W w') := fun W hB => by
    have h := upd_any _ _ a b r W (ha.below hB (Nat.le_refl _)) (hb.below hB (Nat.le_refl _)) (by omega) (by omega) (hR.below hB hz) (Nat.lt_of_lt_of_le hz hB.size)
    unfold UpdPost at h
    rw [hX, hY, hE] at h
    exact h
  have HW : Hid (∀ W, Below w.heap.size w W → Calls Tryd.prog 16 #[] W fun r w' => r = .returned (.bool true) ∧ Below W.heap.size W w') := fun W hb => eawake W (hR.below hb hz) (Nat.lt_of_lt_of_le hz hb.size)
  have HZA := Lib.hid ha
  have HZB := Lib.hid hb
  have hpa : 0 < a.length := by omega
  have hpb : 0 < b.length := by omega
  obtain ⟨b1, o1, rfl, hb1, hc1⟩ := zs_row ha hpa
  obtain ⟨b2, o2, rfl, hb2, hc2⟩ := zs_row hb hpb
  have HC1 := Lib.hid hc1
  have HC2 := Lib.hid hc2
  have HBL1 := Lib.hid hb1
  have HBL2 := Lib.hid hb2
  have HS := Lib.hid hs
  have HIR := Lib.hid hir
  clear ha hb hc1 hc2 hb1 hb2 hR hX hY hE hg hs ht hka hkb hta htb hir h1 h2
  go_enter Tryd.func6, Tryd.ntmps6
  go_wp2_with fail
  refine HT.out.mono ?_
  rintro e w1 ⟨rfl, hb1⟩
  have HB1 := Lib.hid hb1
  clear hb1
  go_wp2_with fail
  refine (HU.out _ HB1.out).mono ?_
  rintro e w3 ⟨vx, vy, rfl, hzx, hzy, hb3⟩
  have HB3 : Hid (Below w.heap.size w w3) := HB1.out.trans (hb3.mono HB1.out.size)
  have hlx := bhd_length s a
  have hly := bhd_length (-s) b
  obtain ⟨_, cx, rfl, -, hrx⟩ := hzx
  obtain ⟨_, cy, rfl, -, hry⟩ := hzy
  obtain ⟨bx, ox, rfl, hbx, hcx⟩ := hrx (by rw [hlx]; exact hpa)
  obtain ⟨by2, oy2, rfl, hby, hcy⟩ := hry (by rw [hly]; exact hpb)
  rw [hlx, hly]
  have HCX := Lib.hid hcx
  have HCY := Lib.hid hcy
  have HBX := Lib.hid hbx
  have HBY := Lib.hid hby
  clear hrx hry hcx hcy hbx hby hlx hly hb3
  go_wp2_with fail
  go_loopw [10, 11, 12] (fun sm en i wr => ∃ k : Nat, k ≤ a.length ∧ i = .int .i64 k ∧ sm = .int .i64 (dif (bhd s a) a k) ∧ en = .bool (enB false (bhd s a) k) ∧ Hid (Below w3.heap.size w3 wr)) (fun _ _ i _ => a.length - (intOf i).toNat)
  case atStart => exact ⟨0, Nat.zero_le _, rfl, by simp [dif], rfl, Below.refl _ _⟩
  case round =>
    obtain ⟨k, hk, rfl, rfl, rfl, HBW⟩ := hrel
    by_cases hlt : k < a.length
    · have hkX : k < (bhd s a).length := by rw [bhd_length]; exact hlt
      have hdb := dif_bd s a HIA.out k hk
      have cX : wr.cell? ⟨bx, ox + k, none⟩ = some (.int .i64 (bhd s a)[k]) := (HBW.out.cell (p := ⟨bx, ox + k, none⟩) HBX.out).trans (HCX.out k hkX)
      have cL : wr.cell? ⟨b1, o1 + k, none⟩ = some (.int .i64 a[k]) := (HBW.out.cell (p := ⟨b1, o1 + k, none⟩) (Nat.lt_of_lt_of_le HBL1.out HB3.out.size)).trans ((HB3.out.cell (p := ⟨b1, o1 + k, none⟩) HBL1.out).trans (HC1.out k hlt))
      have HDN : Hid (dif (bhd s a) a (k + 1) = dif (bhd s a) a k + ((bhd s a)[k] - a[k])) := by
        show _ = _
        rw [dif_succ, getD_of hkX, getD_of hlt]
      have HEN : Hid (enB false (bhd s a) (k + 1) = (enB false (bhd s a) k || ((bhd s a)[k] == 0 || (bhd s a)[k] == 10000))) := by
        show _ = _
        rw [enB_succ, getD_of hkX]
      have hxb : 0 ≤ (bhd s a)[k] ∧ (bhd s a)[k] ≤ 10000 := bhd_bd s a k hlt
      have hyb : 0 ≤ a[k] ∧ a[k] ≤ 10000 := HIA.out k hlt
      generalize (bhd s a)[k] = x at *
      generalize a[k] = y at *
      generalize dif (bhd s a) a k = sm at *
      generalize enB false (bhd s a) k = en at *
      have h0k : (0 : Int) ≤ (k : Int) := by omega
      have h1k : (k : Int) < (a.length : Int) := by omega
      have v1 : IntKind.i64.wrap (x - y) = x - y := IntWalk.i64_in _ (by omega)
      have v2 : IntKind.i64.wrap (sm + (x - y)) = sm + (x - y) := IntWalk.i64_in _ (by omega)
      have q1 : ¬ x < 0 := by omega
      have q2 : ¬ 10000 < x := by omega
      have hways : (en = true) ∨ (en = false ∧ (x == 0) = true) ∨ (en = false ∧ (x == 0) = false ∧ (x == 10000) = true) ∨ (en = false ∧ (x == 0) = false ∧ (x == 10000) = false) := by
        cases en <;> cases x == 0 <;> cases x == 10000 <;> simp
      have HDB := Lib.hid hdb
      clear hdb
      rcases hways with rfl | ⟨rfl, f1⟩ | ⟨rfl, f1, f2⟩ | ⟨rfl, f1, f2⟩
      all_goals
        go_wp2_with fail
        go_quiet (fail)
        go_wp2_with fail
        go_roundw
        case rel => exact ⟨k + 1, by omega, by go_num, by rw [HDN.out], by rw [HEN.out]; simp [*], below_drewN HBW.out _⟩
        case measure => simp [intOf]; omega
    · obtain rfl : k = a.length := by omega
      obtain ⟨w6, hw6⟩ : ∃ W, W = wr := ⟨_, rfl⟩
      rw [← hw6] at HBW ⊢
      clear hw6
      have hDb := dif_bd s a HIA.out a.length (Nat.le_refl _)
      have HZS : Hid (enB (enB false (bhd s a) a.length) (bhd (-s) b) b.length = false → dif (bhd s a) a a.length + dif (bhd (-s) b) b b.length = 0) := zero_sum s a b (by omega) (by omega)
      generalize enB false (bhd s a) a.length = e1 at *
      generalize dif (bhd s a) a a.length = D at *
      go_wp2_with fail
      go_loopw [10, 11, 13] (fun sm en i wr => ∃ k : Nat, k ≤ b.length ∧ i = .int .i64 k ∧ sm = .int .i64 (D + dif (bhd (-s) b) b k) ∧ en = .bool (enB e1 (bhd (-s) b) k) ∧ Hid (Below w3.heap.size w3 wr)) (fun _ _ i _ => b.length - (intOf i).toNat)
      case atStart => exact ⟨0, Nat.zero_le _, rfl, by simp [dif], rfl, HBW.out⟩
      case round =>
        obtain ⟨k, hk, rfl, rfl, rfl, HBW2⟩ := hrel
        by_cases hlt : k < b.length
        · have hkX : k < (bhd (-s) b).length := by rw [bhd_length]; exact hlt
          have hdb := dif_bd (-s) b HIB.out k hk
          have cX : wr.cell? ⟨by2, oy2 + k, none⟩ = some (.int .i64 (bhd (-s) b)[k]) := (HBW2.out.cell (p := ⟨by2, oy2 + k, none⟩) HBY.out).trans (HCY.out k hkX)
          have cL : wr.cell? ⟨b2, o2 + k, none⟩ = some (.int .i64 b[k]) := (HBW2.out.cell (p := ⟨b2, o2 + k, none⟩) (Nat.lt_of_lt_of_le HBL2.out HB3.out.size)).trans ((HB3.out.cell (p := ⟨b2, o2 + k, none⟩) HBL2.out).trans (HC2.out k hlt))
          have HDN : Hid (dif (bhd (-s) b) b (k + 1) = dif (bhd (-s) b) b k + ((bhd (-s) b)[k] - b[k])) := by
            show _ = _
            rw [dif_succ, getD_of hkX, getD_of hlt]
          have HEN : Hid (enB e1 (bhd (-s) b) (k + 1) = (enB e1 (bhd (-s) b) k || ((bhd (-s) b)[k] == 0 || (bhd (-s) b)[k] == 10000))) := by
            show _ = _
            rw [enB_succ, getD_of hkX]
          have hxb : 0 ≤ (bhd (-s) b)[k] ∧ (bhd (-s) b)[k] ≤ 10000 := bhd_bd (-s) b k hlt
          have hyb : 0 ≤ b[k] ∧ b[k] ≤ 10000 := HIB.out k hlt
          generalize (bhd (-s) b)[k] = x at *
          generalize b[k] = y at *
          generalize dif (bhd (-s) b) b k = sm at *
          generalize enB e1 (bhd (-s) b) k = en at *
          have h0k : (0 : Int) ≤ (k : Int) := by omega
          have h1k : (k : Int) < (b.length : Int) := by omega
          have v1 : IntKind.i64.wrap (x - y) = x - y := IntWalk.i64_in _ (by omega)
          have v2 : IntKind.i64.wrap (D + sm + (x - y)) = D + sm + (x - y) := IntWalk.i64_in _ (by omega)
          have q1 : ¬ x < 0 := by omega
          have q2 : ¬ 10000 < x := by omega
          have hways : (en = true) ∨ (en = false ∧ (x == 0) = true) ∨ (en = false ∧ (x == 0) = false ∧ (x == 10000) = true) ∨ (en = false ∧ (x == 0) = false ∧ (x == 10000) = false) := by
            cases en <;> cases x == 0 <;> cases x == 10000 <;> simp
          have HDB := Lib.hid hdb
          clear hdb
          rcases hways with rfl | ⟨rfl, f1⟩ | ⟨rfl, f1, f2⟩ | ⟨rfl, f1, f2⟩
          all_goals
            go_wp2_with fail
            go_quiet (fail)
            go_wp2_with fail
            go_roundw
            case rel => exact ⟨k + 1, by omega, by go_num, by rw [HDN.out]; rw [Int.add_assoc], by rw [HEN.out]; simp [*], below_drewN HBW2.out _⟩
            case measure => simp [intOf]; omega
        · obtain rfl : k = b.length := by omega
          obtain ⟨w7, hw7⟩ : ∃ W, W = wr := ⟨_, rfl⟩
          rw [← hw7] at HBW2 ⊢
          clear hw7
          have hzs := HZS.out
          generalize enB e1 (bhd (-s) b) b.length = en at *
          generalize D + dif (bhd (-s) b) b b.length = tot at *
          have HB7 : Hid (Below w.heap.size w w7) := HB3.out.trans (HBW2.out.mono HB3.out.size)
          cases en
          · obtain rfl : tot = 0 := hzs rfl
            clear hzs
            go_wp2_with fail
            refine (HW.out _ HB7.out).mono ?_
            rintro e w8 ⟨rfl, hb8⟩
            go_wp2_with fail
            go_ret
            exact ⟨rfl, HB7.out.trans (hb8.mono HB7.out.size)⟩
          · clear hzs
            go_wp2_with fail
            refine (HW.out _ HB7.out).mono ?_
            rintro e w8 ⟨rfl, hb8⟩
            go_wp2_with fail
            go_ret
            exact ⟨rfl, HB7.out.trans (hb8.mono HB7.out.size)⟩
end Go.Proofs.YtlkebffainhfaaaDoor
