/- Timer: a heap, plain; down. -/
import Derived.Test.YtaoejkbockcneaaT3
namespace Go.Proofs.Ytaoejkbockcneaa
open Go.RowKit
set_option maxRecDepth 20000

def DnI (n : Nat) (hp : List It) (i : Nat) : Prop :=
  (∀ (c : Nat) (x y : It), 0 < c → c < n → (c - 1) / 2 ≠ i → c ≠ i → hp[c]? = some x → hp[(c - 1) / 2]? = some y → lt x y = false) ∧
  (∀ (c : Nat) (x y : It), 0 < i → (c - 1) / 2 = i → 0 < c → c < n → hp[c]? = some x → hp[(i - 1) / 2]? = some y → lt x y = false)
/-- The place i stands behind none above it. -/
def EdgeOk (hp : List It) (i : Nat) : Prop := ∀ a b : It, 0 < i → hp[i]? = some a → hp[(i - 1) / 2]? = some b → lt a b = false
def KidsOk (n : Nat) (hp : List It) (i : Nat) : Prop := ∀ (c : Nat) (x y : It), 0 < c → c < n → (c - 1) / 2 = i → hp[c]? = some x → hp[i]? = some y → lt x y = false
theorem dn_step {n i j : Nat} {hp : List It} {a b : It} (h : DnI n hp i) (hj0 : 0 < j) (hji : (j - 1) / 2 = i) (hjn : j < n) (ha : hp[i]? = some a) (hb : hp[j]? = some b) (hl : lt b a = true) (hmin : ∀ (c : Nat) (z : It), 0 < c → c < n → (c - 1) / 2 = i → c ≠ j → hp[c]? = some z → lt z b = false) :
    DnI n ((hp.set i b).set j a) j ∧ EdgeOk ((hp.set i b).set j a) j := by
  have hij : i ≠ j := by omega
  have get := swap_get hp i j a b ha hb hij
  refine ⟨⟨?_, ?_⟩, ?_⟩
  · intro c x y hc0 hcn hcj hne hx hy
    rw [get] at hx hy
    rw [if_neg hne] at hx
    rw [if_neg hcj] at hy
    by_cases hci : c = i
    · rw [if_pos hci] at hx
      injection hx with hx
      subst hx
      rw [if_neg (by omega)] at hy
      subst hci
      exact h.2 j b y hc0 hji hj0 hjn hb hy
    · rw [if_neg hci] at hx
      by_cases hpi : (c - 1) / 2 = i
      · rw [if_pos hpi] at hy
        injection hy with hy
        subst hy
        exact hmin c x hc0 hcn hpi hne hx
      · rw [if_neg hpi] at hy
        exact h.1 c x y hc0 hcn hpi hci hx hy
  · intro c x y _ hc hc0 hcn hx hy
    rw [get] at hx hy
    rw [if_neg (by omega), if_neg (by omega)] at hx
    rw [hji, if_neg hij, if_pos rfl] at hy
    injection hy with hy
    subst hy
    exact h.1 c x b hc0 hcn (by omega) (by omega) hx (by rw [hc]; exact hb)
  · intro x y _ hx hy
    rw [get] at hx hy
    rw [if_pos rfl] at hx
    rw [hji, if_neg hij, if_pos rfl] at hy
    injection hx with hx
    injection hy with hy
    subst hx hy
    exact lt_asym hl
theorem dn_heap {n i : Nat} {hp : List It} (h : DnI n hp i) (he : EdgeOk hp i) (hk : KidsOk n hp i) : HeapN n hp := fun c x y hc0 hcn hx hy => by
  by_cases h1 : c = i
  · subst h1
    exact he x y hc0 hx hy
  · by_cases h2 : (c - 1) / 2 = i
    · rw [h2] at hy
      exact hk c x y hc0 hcn h2 hx hy
    · exact h.1 c x y hc0 hcn h2 h1 hx hy
theorem dn_up {n i : Nat} {hp : List It} (h : DnI n hp i) (hk : KidsOk n hp i) : UpI n hp i :=
  ⟨fun c x y hc0 hcn hci hx hy => by
    by_cases h2 : (c - 1) / 2 = i
    · rw [h2] at hy
      exact hk c x y hc0 hcn h2 hx hy
    · exact h.1 c x y hc0 hcn h2 hci hx hy, fun c x y hi hc hc0 hcn hx hy => h.2 c x y hi hc hc0 hcn hx hy⟩

def DnPost (B0 Q M tn : Nat) (v : Value) (hp : List It) (n i0 : Nat) (w : World) (r : Ending) (w' : World) : Prop :=
  ∃ (b : Bool) (hp' : List It), r = .returned (.bool b) ∧ InQ w' B0 Q M tn v hp' ∧ hp'.Perm hp ∧ (∀ k, n ≤ k → hp'[k]? = hp[k]?) ∧ ((b = true ∧ HeapN n hp') ∨ (b = false ∧ UpI n hp' i0)) ∧ Ch 0 B0 w w'
set_option linter.unusedSimpArgs false in
set_option maxHeartbeats 8000000 in
theorem down_any {B0 Q M tn : Nat} (v : Value) (hp : List It) (n i0 : Nat) (w : World) (h : InQ w B0 Q M tn v hp) (hin : i0 < n) (hn : n ≤ hp.length) (hl : hp.length ≤ 1000) (hd : DnI n hp i0) :
    Calls Try.prog 66 #[.iface 110 (.pointer (some ⟨Q, 0, none⟩)), .int .i64 (i0 : Int), .int .i64 (n : Int)] w (DnPost B0 Q M tn v hp n i0 w) := by
  have HH := Lib.hid h
  have HDn := Lib.hid hd
  have HC : Hid (Ch 0 B0 w w) := Ch.refl _ _ _
  clear h hd
  go_enter Try.func66, Try.ntmps66
  go_wp2_with fail
  go_loopw [7] (fun u wr => ∃ (i : Nat) (hq : List It), i0 ≤ i ∧ i < n ∧ u = .int .i64 (i : Int) ∧ Hid (InQ wr B0 Q M tn v hq) ∧ Hid (hq.Perm hp ∧ ∀ k, n ≤ k → hq[k]? = hp[k]?) ∧ Hid (DnI n hq i ∧ (i = i0 ∨ (i0 < i ∧ EdgeOk hq i))) ∧ Hid (Ch 0 B0 w wr)) (fun u _ => n - (intOf u).toNat)
  case atStart => exact ⟨i0, hp, by omega, hin, rfl, HH, ⟨List.Perm.refl _, fun _ _ => rfl⟩, ⟨HDn.out, .inl rfl⟩, HC⟩
  case round =>
    obtain ⟨i, hq, hii, hi, rfl, HI, HP, HDk, HCk⟩ := hrel
    have hlq : hq.length = hp.length := HP.out.1.length_eq
    obtain ⟨a, ha⟩ : ∃ a, hq[i]? = some a := ⟨hq[i]'(by omega), List.getElem?_eq_getElem _⟩
    have HA := Lib.hid ha
    clear ha
    have HEND : Hid (∀ (W : World), KidsOk n hq i → InQ W B0 Q M tn v hq → Ch 0 B0 w W → DnPost B0 Q M tn v hp n i0 w (Ending.returned (Value.bool (decide (i0 < i)))) W) := fun W hk hI hC => by
      refine ⟨_, hq, rfl, hI, HP.out.1, HP.out.2, ?_, hC⟩
      rcases HDk.out.2 with he | ⟨he, hed⟩
      · right
        refine ⟨by simp; omega, ?_⟩
        rw [← he]
        exact dn_up HDk.out.1 hk
      · left
        exact ⟨by simp; omega, dn_heap HDk.out.1 hed hk⟩
    obtain ⟨j1, hj1⟩ : ∃ j1, j1 = 2 * i + 1 := ⟨_, rfl⟩
    have hj1i : (j1 : Int) = 2 * (i : Int) + 1 := by omega
    by_cases h1 : n ≤ j1
    · have HK : Hid (KidsOk n hq i) := fun c x y hc0 hcn hci hx hy => by omega
      go_wp2
      go_ret
      exact HEND.out wr HK.out HI.out HCk.out
    · obtain ⟨c1, hc1⟩ : ∃ c, hq[j1]? = some c := ⟨hq[j1]'(by omega), List.getElem?_eq_getElem _⟩
      have HC1 := Lib.hid hc1
      obtain ⟨j2, hj2⟩ : ∃ j2, j2 = j1 + 1 := ⟨_, rfl⟩
      have J1 : Hid ((j1 : Int) = 2 * (i : Int) + 1) := hj1i
      have J2 : Hid ((j2 : Int) = 2 * (i : Int) + 1 + 1) := by simp only [Hid]; omega
      clear hc1 hlq
      by_cases h2 : j2 < n
      · obtain ⟨c2, hc2⟩ : ∃ c, hq[j2]? = some c := ⟨hq[j2]'(by have := HP.out.1.length_eq; omega), List.getElem?_eq_getElem _⟩
        have HC2 := Lib.hid hc2
        clear hc2
        have HL2 := Lib.hid (less_any v hq j2 j1 c2 c1 wr HI.out.ln HC2.out HC1.out)
        have mL2 := mLess Q v wr HI.out.c0
        rw [J1.out, J2.out] at HL2
        go_wp2_with fail
        refine HL2.out.mono ?_
        rintro r w2 ⟨rfl, hb2⟩
        have HI2 := Lib.hid (HI.out.after hb2)
        have HX2 : Hid (Ch 0 B0 w w2) := HCk.out.trans (Ch.of_below (Nat.le_trans HI.out.lo (Nat.le_of_lt (lt_of_block HI.out.row))) hb2)
        obtain ⟨q2, hq2⟩ : ∃ q, q = lt c2 c1 := ⟨_, rfl⟩
        rw [← hq2]
        have HQ2 := Lib.hid hq2
        clear hb2 hq2 mL2
        cases q2 with
        | true =>
          have HMIN : Hid (∀ (c : Nat) (z : It), 0 < c → c < n → (c - 1) / 2 = i → c ≠ j2 → hq[c]? = some z → lt z c2 = false) := fun c z hc0 hcn hci hcj hz => by
            have : c = j1 := by omega
            subst this
            rw [HC1.out] at hz
            injection hz with hz
            subst hz
            exact lt_asym HQ2.out.symm
          have HLS := Lib.hid (less_any v hq j2 i c2 a w2 HI2.out.ln HC2.out HA.out)
          have mL := mLess Q v w2 HI2.out.c0
          rw [J2.out] at HLS
          go_wp2_with fail
          refine HLS.out.mono ?_
          rintro r w3 ⟨rfl, hb3⟩
          have HI3 := Lib.hid (HI2.out.after hb3)
          have HC3 : Hid (Ch 0 B0 w w3) := HX2.out.trans (Ch.of_below (Nat.le_trans HI2.out.lo (Nat.le_of_lt (lt_of_block HI2.out.row))) hb3)
          obtain ⟨q3, hq3⟩ : ∃ q, q = lt c2 a := ⟨_, rfl⟩
          rw [← hq3]
          have HQ3 := Lib.hid hq3
          clear hb3 hq3 mL
          cases q3 with
          | false =>
            have HK : Hid (KidsOk n hq i) := fun c x y hc0 hcn hci hx hy => by
              rw [HA.out] at hy
              injection hy with hy
              subst hy
              by_cases hcj : c = j2
              · subst hcj
                rw [HC2.out] at hx
                injection hx with hx
                subst hx
                exact HQ3.out.symm
              · exact ge_trans (HMIN.out c x hc0 hcn hci hcj hx) HQ3.out.symm
            go_wp2
            go_ret
            exact HEND.out w3 HK.out HI3.out HC3.out
          | true =>
            have mS := mSwap Q v w3 HI3.out.c0
            have hne : i ≠ j2 := by omega
            have HSW := Lib.hid (swap_any v hq i j2 a c2 w3 HI3.out.ln HA.out HC2.out hne (by have := HP.out.1.length_eq; omega))
            rw [J2.out] at HSW
            go_wp2_with fail
            refine HSW.out.mono ?_
            rintro r w4 ⟨rfl, hln, hch⟩
            have HI4 := Lib.hid (HI3.out.swapped hln hch)
            have HC4 := Lib.hid (HC3.out.trans hch)
            have hst := dn_step HDk.out.1 (by omega) (by omega) (by omega) HA.out HC2.out HQ3.out.symm HMIN.out
            have HD4 : Hid (DnI n ((hq.set i c2).set j2 a) j2 ∧ (j2 = i0 ∨ (i0 < j2 ∧ EdgeOk ((hq.set i c2).set j2 a) j2))) := ⟨hst.1, .inr ⟨by omega, hst.2⟩⟩
            have HP4 : Hid (((hq.set i c2).set j2 a).Perm hp ∧ ∀ k', n ≤ k' → ((hq.set i c2).set j2 a)[k']? = hp[k']?) := ⟨(swap_perm HA.out HC2.out hne).trans HP.out.1, fun k' hk' => by rw [swap_get hq i j2 a c2 HA.out HC2.out hne, if_neg (by omega), if_neg (by omega)]; exact HP.out.2 k' hk'⟩
            clear hln hch mS hst
            go_wp2
            go_roundw
            case rel => exact ⟨j2, _, by omega, by omega, by rw [J2.out], HI4, HP4, HD4, HC4⟩
            case measure => simp [intOf] <;> omega
        | false =>
          have HMIN : Hid (∀ (c : Nat) (z : It), 0 < c → c < n → (c - 1) / 2 = i → c ≠ j1 → hq[c]? = some z → lt z c1 = false) := fun c z hc0 hcn hci hcj hz => by
            have : c = j2 := by omega
            subst this
            rw [HC2.out] at hz
            injection hz with hz
            subst hz
            exact HQ2.out.symm
          have HLS := Lib.hid (less_any v hq j1 i c1 a w2 HI2.out.ln HC1.out HA.out)
          have mL := mLess Q v w2 HI2.out.c0
          rw [J1.out] at HLS
          go_wp2_with fail
          refine HLS.out.mono ?_
          rintro r w3 ⟨rfl, hb3⟩
          have HI3 := Lib.hid (HI2.out.after hb3)
          have HC3 : Hid (Ch 0 B0 w w3) := HX2.out.trans (Ch.of_below (Nat.le_trans HI2.out.lo (Nat.le_of_lt (lt_of_block HI2.out.row))) hb3)
          obtain ⟨q3, hq3⟩ : ∃ q, q = lt c1 a := ⟨_, rfl⟩
          rw [← hq3]
          have HQ3 := Lib.hid hq3
          clear hb3 hq3 mL
          cases q3 with
          | false =>
            have HK : Hid (KidsOk n hq i) := fun c x y hc0 hcn hci hx hy => by
              rw [HA.out] at hy
              injection hy with hy
              subst hy
              by_cases hcj : c = j1
              · subst hcj
                rw [HC1.out] at hx
                injection hx with hx
                subst hx
                exact HQ3.out.symm
              · exact ge_trans (HMIN.out c x hc0 hcn hci hcj hx) HQ3.out.symm
            go_wp2
            go_ret
            exact HEND.out w3 HK.out HI3.out HC3.out
          | true =>
            have mS := mSwap Q v w3 HI3.out.c0
            have hne : i ≠ j1 := by omega
            have HSW := Lib.hid (swap_any v hq i j1 a c1 w3 HI3.out.ln HA.out HC1.out hne (by have := HP.out.1.length_eq; omega))
            rw [J1.out] at HSW
            go_wp2_with fail
            refine HSW.out.mono ?_
            rintro r w4 ⟨rfl, hln, hch⟩
            have HI4 := Lib.hid (HI3.out.swapped hln hch)
            have HC4 := Lib.hid (HC3.out.trans hch)
            have hst := dn_step HDk.out.1 (by omega) (by omega) (by omega) HA.out HC1.out HQ3.out.symm HMIN.out
            have HD4 : Hid (DnI n ((hq.set i c1).set j1 a) j1 ∧ (j1 = i0 ∨ (i0 < j1 ∧ EdgeOk ((hq.set i c1).set j1 a) j1))) := ⟨hst.1, .inr ⟨by omega, hst.2⟩⟩
            have HP4 : Hid (((hq.set i c1).set j1 a).Perm hp ∧ ∀ k', n ≤ k' → ((hq.set i c1).set j1 a)[k']? = hp[k']?) := ⟨(swap_perm HA.out HC1.out hne).trans HP.out.1, fun k' hk' => by rw [swap_get hq i j1 a c1 HA.out HC1.out hne, if_neg (by omega), if_neg (by omega)]; exact HP.out.2 k' hk'⟩
            clear hln hch mS hst
            go_wp2
            go_roundw
            case rel => exact ⟨j1, _, by omega, by omega, by rw [J1.out], HI4, HP4, HD4, HC4⟩
            case measure => simp [intOf] <;> omega
      · have HMIN : Hid (∀ (c : Nat) (z : It), 0 < c → c < n → (c - 1) / 2 = i → c ≠ j1 → hq[c]? = some z → lt z c1 = false) := fun c z hc0 hcn hci hcj hz => by omega
        have HLS := Lib.hid (less_any v hq j1 i c1 a wr HI.out.ln HC1.out HA.out)
        have mL := mLess Q v wr HI.out.c0
        rw [J1.out] at HLS
        go_wp2_with fail
        refine HLS.out.mono ?_
        rintro r w3 ⟨rfl, hb3⟩
        have HI3 := Lib.hid (HI.out.after hb3)
        have HC3 : Hid (Ch 0 B0 w w3) := HCk.out.trans (Ch.of_below (Nat.le_trans HI.out.lo (Nat.le_of_lt (lt_of_block HI.out.row))) hb3)
        obtain ⟨q3, hq3⟩ : ∃ q, q = lt c1 a := ⟨_, rfl⟩
        rw [← hq3]
        have HQ3 := Lib.hid hq3
        clear hb3 hq3 mL
        cases q3 with
        | false =>
          have HK : Hid (KidsOk n hq i) := fun c x y hc0 hcn hci hx hy => by
            rw [HA.out] at hy
            injection hy with hy
            subst hy
            by_cases hcj : c = j1
            · subst hcj
              rw [HC1.out] at hx
              injection hx with hx
              subst hx
              exact HQ3.out.symm
            · exact ge_trans (HMIN.out c x hc0 hcn hci hcj hx) HQ3.out.symm
          go_wp2
          go_ret
          exact HEND.out w3 HK.out HI3.out HC3.out
        | true =>
          have mS := mSwap Q v w3 HI3.out.c0
          have hne : i ≠ j1 := by omega
          have HSW := Lib.hid (swap_any v hq i j1 a c1 w3 HI3.out.ln HA.out HC1.out hne (by have := HP.out.1.length_eq; omega))
          rw [J1.out] at HSW
          go_wp2_with fail
          refine HSW.out.mono ?_
          rintro r w4 ⟨rfl, hln, hch⟩
          have HI4 := Lib.hid (HI3.out.swapped hln hch)
          have HC4 := Lib.hid (HC3.out.trans hch)
          have hst := dn_step HDk.out.1 (by omega) (by omega) (by omega) HA.out HC1.out HQ3.out.symm HMIN.out
          have HD4 : Hid (DnI n ((hq.set i c1).set j1 a) j1 ∧ (j1 = i0 ∨ (i0 < j1 ∧ EdgeOk ((hq.set i c1).set j1 a) j1))) := ⟨hst.1, .inr ⟨by omega, hst.2⟩⟩
          have HP4 : Hid (((hq.set i c1).set j1 a).Perm hp ∧ ∀ k', n ≤ k' → ((hq.set i c1).set j1 a)[k']? = hp[k']?) := ⟨(swap_perm HA.out HC1.out hne).trans HP.out.1, fun k' hk' => by rw [swap_get hq i j1 a c1 HA.out HC1.out hne, if_neg (by omega), if_neg (by omega)]; exact HP.out.2 k' hk'⟩
          clear hln hch mS hst
          go_wp2
          go_roundw
          case rel => exact ⟨j1, _, by omega, by omega, by rw [J1.out], HI4, HP4, HD4, HC4⟩
          case measure => simp [intOf] <;> omega
end Go.Proofs.Ytaoejkbockcneaa
