/- Elo: Update, whole; Same; awake. -/
import Derived.Test.YtlkebffainhfaaaDoorE6
namespace Go.Proofs.YtlkebffainhfaaaDoor
open Go.RowKit
set_option maxRecDepth 20000

def good (a b : List Int) (r : Int) : Bool := tm a.length && tm b.length && (isr r && okr a && okr b)
def updE (a b : List Int) (r : Int) : Int := if (tm a.length && tm b.length) = false then 21 else if (isr r && okr a && okr b) = false then 2 else 0
def updS (a b : List Int) (r : Int) : Int := stk (meanR a) (meanR b) ((min a.length b.length : Nat) : Int) r
def updA (a b : List Int) (r : Int) : List Int := if good a b r = true then bhd (updS a b r) a else []
def updB (a b : List Int) (r : Int) : List Int := if good a b r = true then bhd (-updS a b r) b else []
/-- What Update hands back. -/
def UpdPost (w : World) (a b : List Int) (r : Int) (e : Ending) (w' : World) : Prop :=
  ∃ vx vy, e = .returned (.tuple #[vx, vy, .int .i64 (updE a b r)]) ∧ Zs w' vx (updA a b r) ∧ Zs w' vy (updB a b r) ∧ Below w.heap.size w w'
theorem zs_nil (w : World) : Zs w (.slice none 0 0) [] := ⟨_, _, rfl, Nat.le_refl _, fun h => absurd h (by simp)⟩
theorem tm_iff (n : Nat) : tm n = true ↔ 1 ≤ n ∧ n ≤ 4 := by simp [tm]

set_option maxHeartbeats 400000 in
theorem upd_any (va vb : Value) (a b : List Int) (r : Int) (w : World) (ha : Zs w va a) (hb : Zs w vb b) (hna : a.length ≤ 1000) (hnb : b.length ≤ 1000) (hR : Rw w) (hw0 : 0 < w.heap.size) :
    Calls Tryd.prog 19 #[va, vb, .int .i64 r] w (UpdPost w a b r) := by
  have HSC : Hid (∀ W, Calls Tryd.prog 25 #[.int .i64 r] W fun e w' => e = .returned (.tuple #[.int .i64 (scr r), .bool (isr r)]) ∧ w' = W) := fun W => score_any r W
  have HTA : Hid (∀ W, Below w.heap.size w W → Calls Tryd.prog 26 #[va] W fun e w' => e = .returned (.bool (tm a.length)) ∧ w' = W) := fun W hB => team_any va a W (ha.below hB (Nat.le_refl _)) hna
  have HTB : Hid (∀ W, Below w.heap.size w W → Calls Tryd.prog 26 #[vb] W fun e w' => e = .returned (.bool (tm b.length)) ∧ w' = W) := fun W hB => team_any vb b W (hb.below hB (Nat.le_refl _)) hnb
  have HKA : Hid (∀ W, Below w.heap.size w W → Calls Tryd.prog 27 #[va] W fun e w' => e = .returned (.bool (okr a)) ∧ w' = W) := fun W hB => right_any va a W (ha.below hB (Nat.le_refl _)) hna
  have HKB : Hid (∀ W, Below w.heap.size w W → Calls Tryd.prog 27 #[vb] W fun e w' => e = .returned (.bool (okr b)) ∧ w' = W) := fun W hB => right_any vb b W (hb.below hB (Nat.le_refl _)) hnb
  have HMA : Hid (∀ W, Below w.heap.size w W → Calls Tryd.prog 12 #[va] W fun e w' => e = .returned (.int .i64 (meanR a)) ∧ w' = W) := fun W hB => mean_any va a W (ha.below hB (Nat.le_refl _)) hna
  have HMB : Hid (∀ W, Below w.heap.size w W → Calls Tryd.prog 12 #[vb] W fun e w' => e = .returned (.int .i64 (meanR b)) ∧ w' = W) := fun W hB => mean_any vb b W (hb.below hB (Nat.le_refl _)) hnb
  have HST : Hid (∀ x y m W, Below w.heap.size w W → Calls Tryd.prog 14 #[.int .i64 x, .int .i64 y, .int .i64 m, .int .i64 r] W fun e w' => e = .returned (.int .i64 (stk x y m r)) ∧ w' = W) := fun x y m W hB => stake_any x y m r W (hR.below hB hw0)
  have HBr : Hid (Below w.heap.size w w) := Below.refl _ _
  obtain ⟨Aa, ca, ea, hca, hra⟩ := ha
  obtain ⟨Ab, cb, eb, hcb, hrb⟩ := hb
  have HZA : Hid (Zs w va a) := ⟨Aa, ca, ea, hca, hra⟩
  have HZB : Hid (Zs w vb b) := ⟨Ab, cb, eb, hcb, hrb⟩
  clear hra hrb hR
  by_cases ht : tm a.length = true ∧ tm b.length = true
  · obtain ⟨hta, htb⟩ := ht
    by_cases hk : isr r = true ∧ okr a = true ∧ okr b = true
    · obtain ⟨hir, hka, hkb⟩ := hk
      have hg : good a b r = true := by simp [good, hta, htb, hir, hka, hkb]
      have hE : updE a b r = 0 := by simp [updE, hta, htb, hir, hka, hkb]
      have hA : updA a b r = bhd (updS a b r) a := by unfold updA; rw [if_pos hg]
      have hB : updB a b r = bhd (-updS a b r) b := by unfold updB; rw [if_pos hg]
      have hla := (tm_iff _).1 hta
      have hlb := (tm_iff _).1 htb
      rw [hta] at HTA
      rw [htb] at HTB
      rw [hka] at HKA
      rw [hkb] at HKB
      rw [hir] at HSC
      have HIA : Hid (∀ k (hk : k < a.length), 0 ≤ a[k] ∧ a[k] ≤ 10000) := (okr_iff a).1 hka
      have HIB : Hid (∀ k (hk : k < b.length), 0 ≤ b[k] ∧ b[k] ≤ 10000) := (okr_iff b).1 hkb
      obtain ⟨s, hs⟩ : ∃ s, s = updS a b r := ⟨_, rfl⟩
      have hsb := stk_bd (meanR a) (meanR b) ((min a.length b.length : Nat) : Int) r
      have hs' : s = stk (meanR a) (meanR b) ((min a.length b.length : Nat) : Int) r := hs
      rw [← hs'] at hsb
      rw [← hs] at hA hB
      have HS := Lib.hid hs'
      have HA := Lib.hid hA
      have HB := Lib.hid hB
      unfold UpdPost
      rw [hE]
      have hw1 : wrap64 (-s) = -s := wr64 (by omega) (by omega)
      clear hta htb hir hka hkb hg hE hA hB hs hs'
      subst ea
      subst eb
      by_cases hlt : (b.length : Int) < (a.length : Int)
      · have HMM : Hid ((b.length : Int) = ((min a.length b.length : Nat) : Int)) := by show (_ : Int) = _; omega
        have HSM : Hid (∀ W, Below w.heap.size w W → Calls Tryd.prog 14 #[.int .i64 (meanR a), .int .i64 (meanR b), .int .i64 (b.length : Int), .int .i64 r] W fun e w' => e = .returned (.int .i64 s) ∧ w' = W) := fun W hB => by
          have hss : s = stk (meanR a) (meanR b) (b.length : Int) r := by rw [HS.out, HMM.out]
          rw [hss]
          exact HST.out (meanR a) (meanR b) (b.length : Int) W hB
        clear HST
        go_enter Tryd.func19, Tryd.ntmps19
        go_wp2_with fail
        refine (HSC.out _).mono ?_
        rintro e w1 ⟨rfl, rfl⟩
        go_wp2_with fail
        refine (HTA.out _ HBr.out).mono ?_
        rintro e w1 ⟨rfl, rfl⟩
        go_wp2_with fail
        refine (HTB.out _ HBr.out).mono ?_
        rintro e w1 ⟨rfl, rfl⟩
        go_wp2_with fail
        refine (HKA.out _ HBr.out).mono ?_
        rintro e w1 ⟨rfl, rfl⟩
        go_wp2_with fail
        refine (HKB.out _ HBr.out).mono ?_
        rintro e w1 ⟨rfl, rfl⟩
        go_wp2_with fail
        refine (HMA.out _ HBr.out).mono ?_
        rintro e w1 ⟨rfl, rfl⟩
        go_wp2_with fail
        refine (HMB.out _ HBr.out).mono ?_
        rintro e w1 ⟨rfl, rfl⟩
        go_wp2_with fail
        refine (HSM.out _ HBr.out).mono ?_
        rintro e w1 ⟨rfl, rfl⟩
        go_wp2_with fail
        refine (behind_any s _ a _ HZA.out hla.1 hla.2 HIA.out hsb.1 hsb.2).mono ?_
        rintro e w2 ⟨rfl, hq2, hb2⟩
        have HQ2 := Lib.hid hq2
        have HB2 := Lib.hid hb2
        clear hq2 hb2
        go_wp2_with fail
        refine (behind_any (-s) _ b _ (HZB.out.below HB2.out (Nat.le_refl _)) hlb.1 hlb.2 HIB.out (by omega) (by omega)).mono ?_
        rintro e w3 ⟨rfl, hq3, hb3⟩
        have HQ3 := Lib.hid hq3
        have HB3 := Lib.hid hb3
        clear hq3 hb3
        go_wp2_with fail
        go_ret3
        refine ⟨_, _, rfl, ?_, ?_, HB2.out.trans (HB3.out.mono HB2.out.size)⟩
        · have h := z_zs ((HB3.out.block _ (lt_of_block HQ2.out)).trans HQ2.out)
          rw [HA.out]
          rw [bhd_length] at h
          exact h
        · have h := z_zs HQ3.out
          rw [HB.out]
          rw [bhd_length] at h
          exact h
      · have HMM : Hid ((a.length : Int) = ((min a.length b.length : Nat) : Int)) := by show (_ : Int) = _; omega
        have HSM : Hid (∀ W, Below w.heap.size w W → Calls Tryd.prog 14 #[.int .i64 (meanR a), .int .i64 (meanR b), .int .i64 (a.length : Int), .int .i64 r] W fun e w' => e = .returned (.int .i64 s) ∧ w' = W) := fun W hB => by
          have hss : s = stk (meanR a) (meanR b) (a.length : Int) r := by rw [HS.out, HMM.out]
          rw [hss]
          exact HST.out (meanR a) (meanR b) (a.length : Int) W hB
        clear HST
        go_enter Tryd.func19, Tryd.ntmps19
        go_wp2_with fail
        refine (HSC.out _).mono ?_
        rintro e w1 ⟨rfl, rfl⟩
        go_wp2_with fail
        refine (HTA.out _ HBr.out).mono ?_
        rintro e w1 ⟨rfl, rfl⟩
        go_wp2_with fail
        refine (HTB.out _ HBr.out).mono ?_
        rintro e w1 ⟨rfl, rfl⟩
        go_wp2_with fail
        refine (HKA.out _ HBr.out).mono ?_
        rintro e w1 ⟨rfl, rfl⟩
        go_wp2_with fail
        refine (HKB.out _ HBr.out).mono ?_
        rintro e w1 ⟨rfl, rfl⟩
        go_wp2_with fail
        refine (HMA.out _ HBr.out).mono ?_
        rintro e w1 ⟨rfl, rfl⟩
        go_wp2_with fail
        refine (HMB.out _ HBr.out).mono ?_
        rintro e w1 ⟨rfl, rfl⟩
        go_wp2_with fail
        refine (HSM.out _ HBr.out).mono ?_
        rintro e w1 ⟨rfl, rfl⟩
        go_wp2_with fail
        refine (behind_any s _ a _ HZA.out hla.1 hla.2 HIA.out hsb.1 hsb.2).mono ?_
        rintro e w2 ⟨rfl, hq2, hb2⟩
        have HQ2 := Lib.hid hq2
        have HB2 := Lib.hid hb2
        clear hq2 hb2
        go_wp2_with fail
        refine (behind_any (-s) _ b _ (HZB.out.below HB2.out (Nat.le_refl _)) hlb.1 hlb.2 HIB.out (by omega) (by omega)).mono ?_
        rintro e w3 ⟨rfl, hq3, hb3⟩
        have HQ3 := Lib.hid hq3
        have HB3 := Lib.hid hb3
        clear hq3 hb3
        go_wp2_with fail
        go_ret3
        refine ⟨_, _, rfl, ?_, ?_, HB2.out.trans (HB3.out.mono HB2.out.size)⟩
        · have h := z_zs ((HB3.out.block _ (lt_of_block HQ2.out)).trans HQ2.out)
          rw [HA.out]
          rw [bhd_length] at h
          exact h
        · have h := z_zs HQ3.out
          rw [HB.out]
          rw [bhd_length] at h
          exact h
    · have hg : good a b r = false := by
        unfold good
        rw [hta, htb]
        cases h1 : isr r <;> cases h2 : okr a <;> cases h3 : okr b <;> simp [h1, h2, h3] at hk ⊢
      have hE : updE a b r = 2 := by
        unfold good at hg
        rw [hta, htb] at hg
        unfold updE
        rw [hta, htb, if_neg (by simp), if_pos (by simpa using hg)]
      have hA : updA a b r = [] := by unfold updA; rw [if_neg (by simp [hg])]
      have hB : updB a b r = [] := by unfold updB; rw [if_neg (by simp [hg])]
      rw [hta] at HTA
      rw [htb] at HTB
      unfold UpdPost
      rw [hE, hA, hB]
      clear hta htb hg hE hA hB HST HMA HMB
      subst ea
      subst eb
      generalize hi : isr r = i1 at HSC hk
      generalize ho : okr a = i2 at HKA hk
      generalize hp : okr b = i3 at HKB hk
      clear hi ho hp
      cases i1
      · clear hk
        go_enter Tryd.func19, Tryd.ntmps19
        go_wp2_with fail
        refine (HSC.out _).mono ?_
        rintro e w1 ⟨rfl, rfl⟩
        go_wp2_with fail
        refine (HTA.out _ HBr.out).mono ?_
        rintro e w1 ⟨rfl, rfl⟩
        go_wp2_with fail
        refine (HTB.out _ HBr.out).mono ?_
        rintro e w1 ⟨rfl, rfl⟩
        go_wp2_with fail
        go_ret3
        exact ⟨_, _, rfl, zs_nil _, zs_nil _, HBr.out⟩
      · cases i2
        · clear hk
          go_enter Tryd.func19, Tryd.ntmps19
          go_wp2_with fail
          refine (HSC.out _).mono ?_
          rintro e w1 ⟨rfl, rfl⟩
          go_wp2_with fail
          refine (HTA.out _ HBr.out).mono ?_
          rintro e w1 ⟨rfl, rfl⟩
          go_wp2_with fail
          refine (HTB.out _ HBr.out).mono ?_
          rintro e w1 ⟨rfl, rfl⟩
          go_wp2_with fail
          refine (HKA.out _ HBr.out).mono ?_
          rintro e w1 ⟨rfl, rfl⟩
          go_wp2_with fail
          go_ret3
          exact ⟨_, _, rfl, zs_nil _, zs_nil _, HBr.out⟩
        · have h3 : i3 = false := by cases i3 <;> simp at hk ⊢
          subst h3
          clear hk
          go_enter Tryd.func19, Tryd.ntmps19
          go_wp2_with fail
          refine (HSC.out _).mono ?_
          rintro e w1 ⟨rfl, rfl⟩
          go_wp2_with fail
          refine (HTA.out _ HBr.out).mono ?_
          rintro e w1 ⟨rfl, rfl⟩
          go_wp2_with fail
          refine (HTB.out _ HBr.out).mono ?_
          rintro e w1 ⟨rfl, rfl⟩
          go_wp2_with fail
          refine (HKA.out _ HBr.out).mono ?_
          rintro e w1 ⟨rfl, rfl⟩
          go_wp2_with fail
          refine (HKB.out _ HBr.out).mono ?_
          rintro e w1 ⟨rfl, rfl⟩
          go_wp2_with fail
          go_ret3
          exact ⟨_, _, rfl, zs_nil _, zs_nil _, HBr.out⟩
  · have ht' : (tm a.length && tm b.length) = false := by
      cases h1 : tm a.length <;> cases h2 : tm b.length <;> simp [h1, h2] at ht ⊢
    have hg : good a b r = false := by unfold good; rw [ht']; rfl
    have hE : updE a b r = 21 := by unfold updE; rw [if_pos ht']
    have hA : updA a b r = [] := by unfold updA; rw [if_neg (by simp [hg])]
    have hB : updB a b r = [] := by unfold updB; rw [if_neg (by simp [hg])]
    unfold UpdPost
    rw [hE, hA, hB]
    clear hg hE hA hB HST HMA HMB HKA HKB ht
    subst ea
    subst eb
    generalize hi : tm a.length = i1 at HTA ht'
    generalize ho : tm b.length = i2 at HTB ht'
    generalize isr r = i3 at HSC
    clear hi ho
    cases i1
    · clear ht'
      go_enter Tryd.func19, Tryd.ntmps19
      go_wp2_with fail
      refine (HSC.out _).mono ?_
      rintro e w1 ⟨rfl, rfl⟩
      go_wp2_with fail
      refine (HTA.out _ HBr.out).mono ?_
      rintro e w1 ⟨rfl, rfl⟩
      go_wp2_with fail
      go_ret3
      exact ⟨_, _, rfl, zs_nil _, zs_nil _, HBr.out⟩
    · obtain rfl : i2 = false := by simpa using ht'
      clear ht'
      go_enter Tryd.func19, Tryd.ntmps19
      go_wp2_with fail
      refine (HSC.out _).mono ?_
      rintro e w1 ⟨rfl, rfl⟩
      go_wp2_with fail
      refine (HTA.out _ HBr.out).mono ?_
      rintro e w1 ⟨rfl, rfl⟩
      go_wp2_with fail
      refine (HTB.out _ HBr.out).mono ?_
      rintro e w1 ⟨rfl, rfl⟩
      go_wp2_with fail
      go_ret3
      exact ⟨_, _, rfl, zs_nil _, zs_nil _, HBr.out⟩
end Go.Proofs.YtlkebffainhfaaaDoor
