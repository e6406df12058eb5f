/- Frames: any frames behind their lengths: FrameWraps returns true for every input. -/
import Derived.Test.YtggoclmboemmlaaFA
namespace Go.Proofs.Ytggoclmboemmlaa
open Go.RowKit

theorem short_len {fs : List (List UInt8)} (h : shortB fs = true) : (∀ p ∈ fs, p.length ≤ 1200) ∧ fs.length ≤ 20 := by
  unfold shortB at h
  rwa [decide_eq_true_iff] at h
theorem wrapP_short {fs : List (List UInt8)} (h : ∀ p ∈ fs, p.length ≤ 1200) : (wrapP fs).length ≤ 1202 * fs.length := by
  induction fs with
  | nil => simp [wrapP]
  | cons f fs ih =>
    have h1 := h f (by simp)
    have h2 := ih (fun g hg => h g (by simp [hg]))
    rw [wrapP_cons]
    simp only [List.length_cons, List.length_append]
    omega

set_option maxHeartbeats 2000000 in
set_option maxRecDepth 4000 in
theorem wraps_walk (v : Value) (fs : List (List UInt8)) (w : World) (hp : Pbs w v fs) (hpl : fs.length ≤ 9223372036854775807) (hql : ∀ p ∈ fs, p.length ≤ 9223372036854775807) :
    Calls Try.prog 3 #[v] w fun e w' => e = .returned (.bool true) ∧ Below w.heap.size w w' := by
  obtain ⟨A, c, rfl, _, _⟩ := id hp
  have hsh := short_any _ fs w hp hpl hql
  obtain ⟨sb, hsb⟩ : ∃ sb, sb = shortB fs := ⟨_, rfl⟩
  rw [← hsb] at hsh
  have HSH := Lib.hid hsh
  have HSB := Lib.hid hsb
  have HP := Lib.hid hp
  have HQL := Lib.hid hql
  clear hsh hsb hp hql
  go_enter Try.func3, Try.ntmps3
  go_wp2_with fail
  refine HSH.out.mono ?_
  rintro e w0 ⟨rfl, rfl⟩
  clear HSH
  cases sb with
  | false =>
    go_wp2_with fail
    go_ret
    exact ⟨rfl, Below.refl _ _⟩
  | true =>
    have hsl := short_len HSB.out.symm
    have hwl : (wrapP fs).length ≤ 900000 := by have := wrapP_short hsl.1; omega
    have hw1 := wrap_any _ fs w HP.out hpl HQL.out hwl
    obtain ⟨gb, hgb⟩ : ∃ gb, gb = goodB fs := ⟨_, rfl⟩
    obtain ⟨X, hX⟩ : ∃ X, X = wrapR fs := ⟨_, rfl⟩
    obtain ⟨er, her⟩ : ∃ er : Int, er = if gb then 0 else 6 := ⟨_, rfl⟩
    rw [← hgb, ← hX, ← her] at hw1
    have HER := Lib.hid her
    have HW := Lib.hid hw1
    have HWL := Lib.hid hwl
    have HGB := Lib.hid hgb
    have HX := Lib.hid hX
    clear hw1 hwl hsl hgb hX her
    go_wp2_with fail
    refine HW.out.mono ?_
    rintro e w1 ⟨A1, n1, c1, rfl, ho1, hb1⟩
    have hw2 := rwrap_any _ fs w1 (HP.out.below hb1) hpl HQL.out HWL.out
    rw [← HGB.out, ← HX.out] at hw2
    have HW2 := Lib.hid hw2
    have HO1 := Lib.hid ho1
    have HB1 := Lib.hid hb1
    clear hw2 ho1 hb1 HW
    go_wp2_with fail
    refine HW2.out.mono ?_
    rintro e w2 ⟨A2, n2, c2, rfl, ho2, hb2⟩
    have hb12 := HB1.out.trans (hb2.mono HB1.out.size)
    have hp1 := (own_pb HO1.out).below hb2
    have hp2 := own_pb ho2
    have HA := Lib.hid (fun (W : World) => awake_any W)
    cases gb with
    | false =>
      obtain rfl : er = 6 := HER.out
      have h0 : n1 = 0 := by
        have hx0 : X = [] := by
          rw [HX.out]
          unfold wrapR
          rw [← HGB.out]
          rfl
        obtain ⟨_, _, e, _⟩ := hp1
        rw [hx0] at e
        injection e
      subst h0
      have HB := Lib.hid hb12
      clear hp2 hp1 hb12 hb2 ho2 HW2
      go_wp2_with fail
      refine (HA.out w2).mono ?_
      rintro e w3 ⟨rfl, hb3⟩
      have HB3 := Lib.hid (HB.out.trans (hb3.mono HB.out.size))
      clear hb3
      go_wp2_with fail
      go_ret
      exact ⟨rfl, HB3.out⟩
    | true =>
      obtain rfl : er = 0 := HER.out
      have k1 : (convert 24 9 (.slice A1 n1 c1)).run Try.prog w2 = .ok (.string ⟨X.toArray⟩) w2 := conv_pb hp1
      have k2 : (convert 24 9 (.slice A2 n2 c2)).run Try.prog w2 = .ok (.string ⟨X.toArray⟩) w2 := conv_pb hp2
      have hst : ((⟨X.toArray⟩ : ByteArray).toList == (⟨X.toArray⟩ : ByteArray).toList) = true := by rw [str_eq]; simp
      obtain ⟨s, hs⟩ : ∃ s : ByteArray, s = ⟨X.toArray⟩ := ⟨_, rfl⟩
      rw [← hs] at k1 k2 hst
      have HB := Lib.hid hb12
      clear hp2 hp1 hb12 hb2 ho2 HW2 hs
      go_wp2_with fail
      refine (HA.out w2).mono ?_
      rintro e w3 ⟨rfl, hb3⟩
      have HB3 := Lib.hid (HB.out.trans (hb3.mono HB.out.size))
      clear hb3 k1 k2
      go_wp2_with fail
      go_ret
      exact ⟨rfl, HB3.out⟩
end Go.Proofs.Ytggoclmboemmlaa
