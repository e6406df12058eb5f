/- Frames: what is wrapped comes as it was: FrameBack returns true for every input. -/
import Derived.Test.YtggoclmboemmlaaFB
import Derived.Test.YtggoclmboemmlaaFC
namespace Go.Proofs.Ytggoclmboemmlaa
open Go.RowKit

theorem pbs_one {w : World} {v : Value} {p : List UInt8} (h : Pb w v p) : Pbs (w.alloc (.cells #[v] 24)) (.slice (some ⟨w.heap.size, 0, none⟩) 1 1) [p] :=
  ⟨_, 1, rfl, by simp, fun _ => ⟨w.heap.size, 0, rfl, by simp, fun j hj => by
    obtain rfl : j = 0 := by simpa using hj
    exact ⟨v, by rw [cell_of_row _ _ _ _ _ _ (heap_alloc_new w _)]; rfl, h.below ((Below.refl _ _).alloc (Nat.le_refl _) _)⟩⟩⟩

set_option maxHeartbeats 2000000 in
set_option maxRecDepth 4000 in
theorem back_walk (v : Value) (fs : List (List UInt8)) (w : World) (hp : Pbs w v fs) (hpl : fs.length ≤ 9223372036854775807) (hql : ∀ p ∈ fs, p.length ≤ 9223372036854775807) :
    Calls Try.prog 6 #[v] w fun e w' => e = .returned (.bool true) ∧ Below w.heap.size w w' := by
  obtain ⟨A, c, rfl, _, _⟩ := id hp
  have hsh := short_any _ fs w hp hpl hql
  obtain ⟨sb, hsb⟩ : ∃ sb, sb = shortB fs := ⟨_, rfl⟩
  rw [← hsb] at hsh
  have HSH := Lib.hid hsh
  have HSB := Lib.hid hsb
  have HP := Lib.hid hp
  have HQL := Lib.hid hql
  clear hsh hsb hp hql
  go_enter Try.func6, Try.ntmps6
  go_wp2_with fail
  refine HSH.out.mono ?_
  rintro e w0 ⟨rfl, rfl⟩
  clear HSH
  cases sb with
  | false =>
    go_wp2_with fail
    go_ret
    exact ⟨rfl, Below.refl _ _⟩
  | true =>
    have hsl := short_len HSB.out.symm
    have hwl : (wrapP fs).length ≤ 900000 := by have := wrapP_short hsl.1; omega
    have HWS := Lib.hid (show (wrapP fs).length ≤ 24040 by have := wrapP_short hsl.1; omega)
    have hw1 := wrap_any _ fs w HP.out hpl HQL.out hwl
    obtain ⟨gb, hgb⟩ : ∃ gb, gb = goodB fs := ⟨_, rfl⟩
    obtain ⟨X, hX⟩ : ∃ X, X = wrapR fs := ⟨_, rfl⟩
    obtain ⟨er, her⟩ : ∃ er : Int, er = if gb then 0 else 6 := ⟨_, rfl⟩
    rw [← hgb, ← hX, ← her] at hw1
    have HER := Lib.hid her
    have HW := Lib.hid hw1
    have HWL := Lib.hid hwl
    have HGB := Lib.hid hgb
    have HX := Lib.hid hX
    clear hw1 hwl hsl hgb hX her
    go_wp2_with fail
    refine HW.out.mono ?_
    rintro e w1 ⟨A1, n1, c1, rfl, ho1, hb1⟩
    have HA := Lib.hid (fun (W : World) => awake_any W)
    cases gb with
    | false =>
      obtain rfl : er = 6 := HER.out
      have h0 : n1 = 0 := by
        have hx0 : X = [] := by
          rw [HX.out]
          unfold wrapR
          rw [← HGB.out]
          rfl
        obtain ⟨_, _, e, _⟩ := own_pb ho1
        rw [hx0] at e
        injection e
      subst h0
      have HB := Lib.hid hb1
      clear hb1 ho1 HW
      go_wp2_with fail
      refine (HA.out w1).mono ?_
      rintro e w3 ⟨rfl, hb3⟩
      have HB3 := Lib.hid (HB.out.trans (hb3.mono HB.out.size))
      clear hb3
      go_wp2_with fail
      go_ret
      exact ⟨rfl, HB3.out⟩
    | true =>
      obtain rfl : er = 0 := HER.out
      have hgd : ∀ f ∈ fs, 1 ≤ f.length ∧ f.length ≤ 1024 := by
        have := HGB.out.symm
        unfold goodB at this
        rwa [decide_eq_true_iff] at this
      have hXw : X = wrapP fs := by
        rw [HX.out]
        unfold wrapR
        rw [← HGB.out]
        rfl
      have hpx : parse X = (fs, [], false) := by rw [hXw]; exact parse_wrap fs hgd
      have hXl : X.length ≤ 200000 := by rw [hXw]; have := HWS.out; omega
      have hfd := feeds_any _ [X] _ (pbs_one (own_pb ho1)) (by simpa using hXl) (by simp)
      rw [show [X].flatten = X by simp] at hfd
      have hba : Below w.heap.size w (w1.alloc (.cells #[.slice A1 n1 c1] 24)) := hb1.alloc hb1.size _
      have HFD := Lib.hid hfd
      have HPX := Lib.hid hpx
      have HBA := Lib.hid hba
      clear hfd hpx hba hXl hXw hgd hb1 ho1 HW
      go_wp2_with fail
      refine HFD.out.mono ?_
      intro e w2 hq
      obtain ⟨A2, n2, c2, vs, e1, hfr, hb2⟩ := hq
      rw [HPX.out] at e1 hfr
      subst e1
      have hb12 := HBA.out.trans (hb2.mono HBA.out.size)
      have hsm := same_any _ _ fs fs w2 hfr.pbs (HP.out.below hb12) hpl hpl
      rw [decide_eq_true rfl] at hsm
      have HSM := Lib.hid hsm
      have HB2 := Lib.hid hb12
      clear hsm hb12 hfr hb2 HFD HBA
      go_wp2_with fail
      refine HSM.out.mono ?_
      rintro e w3 ⟨rfl, hb3⟩
      have HB3 := Lib.hid (HB2.out.trans (hb3.mono HB2.out.size))
      clear hb3 HB2 HSM
      go_wp2_with fail
      refine (HA.out w3).mono ?_
      rintro e w4 ⟨rfl, hb4⟩
      have HB4 := Lib.hid (HB3.out.trans (hb4.mono HB3.out.size))
      clear hb4
      go_wp2_with fail
      go_ret
      exact ⟨rfl, HB4.out⟩
end Go.Proofs.Ytggoclmboemmlaa
