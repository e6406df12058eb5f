/- Outbox: Send. -/
import Derived.Test.YtbahifbhjdnacaaO6
namespace Go.Proofs.Ytbahifbhjdnacaa
open Go.RowKit
set_option maxRecDepth 20000
set_option linter.unusedVariables false
set_option linter.unusedSimpArgs false

/-- What Send answers: the error's number, the bytes; how many are in flight then. -/
def sendE (fl out : Int) (fs : List (List UInt8)) : Int := if goodB fs then (if out - fl < (wrapP fs).length then 10 else 0) else 6
def sendB (fl out : Int) (fs : List (List UInt8)) : List UInt8 := if sendE fl out fs = 0 then wrapP fs else []
theorem sendB_ok {fl out : Int} {fs : List (List UInt8)} (h : sendE fl out fs = 0) : sendB fl out fs = wrapP fs := by unfold sendB; rw [if_pos h]
theorem sendB_no {fl out : Int} {fs : List (List UInt8)} (h : sendE fl out fs ≠ 0) : sendB fl out fs = [] := by unfold sendB; rw [if_neg h]
/-- The bytes l, at v, in another block than H. -/
def Pbn (w : World) (H : Nat) (v : Value) (l : List UInt8) : Prop := ∃ g, g ≠ H ∧ Pg w g v l
theorem Pbn.pb {w : World} {H : Nat} {v : Value} {l : List UInt8} (h : Pbn w H v l) : Pb w v l := by obtain ⟨g, _, h⟩ := h; exact h.pb
theorem Pbn.kept {w w' : World} {H : Nat} {v : Value} {l : List UInt8} (h : Pbn w H v l) (k : Kp (fun k => k = H) w w') : Pbn w' H v l := by obtain ⟨g, hn, h⟩ := h; exact ⟨g, hn, h.kept k hn⟩
theorem Pbn.below {w w' : World} {H : Nat} {v : Value} {l : List UInt8} (h : Pbn w H v l) (k : Below w.heap.size w w') : Pbn w' H v l := h.kept (Kp.of_below _ k)
theorem pbn_none (w : World) (H : Nat) : Pbn w H (.slice none 0 0) [] := ⟨H + 1, by omega, none, 0, rfl, Nat.le_refl _, fun h => absurd h (by simp)⟩
theorem own_pbn {w : World} {B H : Nat} {v : Value} {l : List UInt8} (h : w.ownsRow B 5 1 v l.length (bv l)) (hH : H < B) : Pbn w H v l := by
  obtain ⟨g, hp, e⟩ := own_pg h
  rcases e with e | e
  · exact ⟨g, by have := (h.lt g e).1; omega, hp⟩
  · obtain ⟨A, c, e1, hc, hr⟩ := hp
    subst e1
    refine ⟨H + 1, by omega, A, c, rfl, hc, fun hx => ?_⟩
    obtain ⟨o, hA, _⟩ := hr hx
    subst hA
    cases e
theorem pb_none (w : World) : Pb w (.slice none 0 0) [] := ⟨none, 0, rfl, Nat.le_refl _, fun h => absurd h (by simp)⟩

set_option maxHeartbeats 2000000 in
theorem send_any {H : Nat} {fl out ask rate : Int} (v : Value) (fs : List (List UInt8)) (w : World) (h : Fw w H fl out ask rate) (hp : Pbs w v fs) (hpl : fs.length ≤ 9223372036854775807) (hql : ∀ p ∈ fs, p.length ≤ 9223372036854775807) (hlen : (wrapP fs).length ≤ 900000) :
    Calls Try.prog 8 #[.pointer (some ⟨H, 0, none⟩), v] w fun r w' => ∃ A n c, r = .returned (.tuple #[.slice A n c, .int .i64 (sendE fl out fs)]) ∧ Pbn w' H (.slice A n c) (sendB fl out fs) ∧ Fw w' H (fl + (sendB fl out fs).length) out ask rate ∧ Kp (fun k => k = H) w w' := by
  have HW := Lib.hid (wrap_any v fs w hp hpl hql hlen)
  have HF := Lib.hid h
  have HL := Lib.hid hlen
  have hH := lt_of_block' h.row
  have HH := Lib.hid hH
  clear hH hp
  cases hg : goodB fs with
  | false =>
    have he : sendE fl out fs = 6 := by unfold sendE; rw [hg]; rfl
    have hb : sendB fl out fs = [] := sendB_no (by rw [he]; decide)
    rw [he, hb]
    rw [hg] at HW
    have hx : wrapR fs = [] := by unfold wrapR; rw [hg]; rfl
    rw [hx] at HW
    clear he hb hx h hlen hpl hql hg
    go_enter Try.func8, Try.ntmps8
    go_wp2_with fail
    refine HW.out.mono ?_
    rintro r w1 ⟨A, n, c, rfl, ho, hb⟩
    have HF1 := Lib.hid (HF.out.below hb)
    have HK := Lib.hid (Kp.of_below (fun k => k = H) hb)
    clear ho hb
    go_wp2
    go_ret2
    exact ⟨none, 0, 0, rfl, pbn_none _ _, by simpa using HF1.out, HK.out⟩
  | true =>
    rw [hg] at HW
    have hx : wrapR fs = wrapP fs := by unfold wrapR; rw [hg]; rfl
    rw [hx] at HW
    obtain ⟨X, hX⟩ : ∃ X, X = wrapP fs := ⟨_, rfl⟩
    rw [← hX] at HW HL
    by_cases hy : out - fl < (X.length : Int)
    · have he : sendE fl out fs = 10 := by unfold sendE; rw [hg, ← hX, if_pos rfl, if_pos hy]
      have hb : sendB fl out fs = [] := sendB_no (by rw [he]; decide)
      rw [he, hb]
      have HA : Hid (∀ W, Below w.heap.size w W → Calls Try.prog 21 #[.pointer (some ⟨H, 0, none⟩), .int .i64 (X.length : Int)] W fun r w' => r = .returned (.bool false) ∧ Below W.heap.size W w') := fun W hW => by
        have h1 := HF.out.below hW
        exact add_no H 0 fl out _ W h1.cell.1 h1.cell.2.1 h1.fl0 h1.flo h1.ou hy
      clear he hb hx h hlen hpl hql hg hX
      go_enter Try.func8, Try.ntmps8
      go_wp2_with fail
      refine HW.out.mono ?_
      rintro r w1 ⟨A, n, c, rfl, ho, hb⟩
      obtain ⟨A', c', e, _⟩ := own_pb ho
      injection e with e1 e2 e3
      subst e1 e3
      have HB := Lib.hid hb
      clear ho hb
      have HE : Hid (n = X.length) := e2
      rw [show (.slice A n c : Value) = .slice A X.length c by rw [e2]]
      clear e2 HE
      go_wp2_with fail
      refine (HA.out w1 HB.out).mono ?_
      rintro r w2 ⟨rfl, hb2⟩
      have hb3 := HB.out.trans (hb2.mono HB.out.size)
      have HF1 := Lib.hid (HF.out.below hb3)
      have HK := Lib.hid (Kp.of_below (fun k => k = H) hb3)
      clear hb2 hb3
      go_wp2
      go_ret2
      exact ⟨none, 0, 0, rfl, pbn_none _ _, by simpa using HF1.out, HK.out⟩
    · have he : sendE fl out fs = 0 := by unfold sendE; rw [hg, ← hX, if_pos rfl, if_neg hy]
      have hb : sendB fl out fs = X := by rw [sendB_ok he, hX]
      rw [he, hb]
      have HA : Hid (∀ W, Below w.heap.size w W → Calls Try.prog 21 #[.pointer (some ⟨H, 0, none⟩), .int .i64 (X.length : Int)] W fun r w' => r = .returned (.bool true) ∧ ∃ wd, Below W.heap.size W wd ∧ w' = wd.setCell ⟨H, 0, none⟩ (.int .i64 (fl + (X.length : Int)))) := fun W hW => by
        have h1 := HF.out.below hW
        exact add_yes H 0 fl out _ W h1.cell.1 h1.cell.2.1 (frozen_of_row W _ 0 _ _ h1.row) h1.fl0 h1.flo h1.ou (by omega) (by omega)
      have HN : Hid (0 ≤ fl + (X.length : Int) ∧ fl + (X.length : Int) ≤ out) := ⟨by have := h.fl0; omega, by omega⟩
      clear he hb hx h hlen hpl hql hg hX hy
      go_enter Try.func8, Try.ntmps8
      go_wp2_with fail
      refine HW.out.mono ?_
      rintro r w1 ⟨A, n, c, rfl, ho, hb⟩
      obtain ⟨A', c', e, _⟩ := own_pb ho
      injection e with e1 e2 e3
      subst e1 e3
      have HB := Lib.hid hb
      have HO := Lib.hid ho
      clear ho hb
      rw [show (.slice A n c : Value) = .slice A X.length c by rw [e2]] at HO ⊢
      clear e2
      go_wp2_with fail
      refine (HA.out w1 HB.out).mono ?_
      rintro r w2 ⟨rfl, wd, hb2, rfl⟩
      have hb3 := HB.out.trans (hb2.mono HB.out.size)
      have HF1 := Lib.hid ((HF.out.below hb3).setFl (fl + (X.length : Int)) HN.out.1 HN.out.2)
      have HK := Lib.hid ((Kp.of_below (fun k => k = H) hb3).trans (Kp.setCell wd ⟨H, 0, none⟩ (.int .i64 (fl + (X.length : Int)))) (fun i _ e => e))
      have HP := Lib.hid (own_pbn (H := H) ((Kp.setCell wd ⟨H, 0, none⟩ (.int .i64 (fl + (X.length : Int)))).own (own_below HO.out hb2) (fun k hk e => by have := (HO.out.lt k hk).1; have := HH.out; have e' : k = H := e; omega)) HH.out)
      clear hb2 hb3
      go_wp2
      go_ret2
      exact ⟨A, X.length, c, rfl, HP.out, HF1.out, HK.out⟩
end Go.Proofs.Ytbahifbhjdnacaa
