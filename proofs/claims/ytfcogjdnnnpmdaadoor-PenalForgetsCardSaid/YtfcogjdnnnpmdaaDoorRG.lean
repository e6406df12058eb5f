/- Penal: PenalForgets' walk. -/
import Derived.Test.YtfcogjdnnnpmdaaDoorRF
namespace Go.Proofs.YtfcogjdnnnpmdaaDoor
open Go.RowKit
set_option maxRecDepth 20000

theorem Fs.mark0 {w W : World} {B R x : Nat} {o : Option Mk} {now : Int} (h : Fs w W B R x o now) (h0 : 0 ≤ now) (h1 : now ≤ 1000000000000) :
    Calls Tryd.prog 23 #[.pointer (some ⟨B, 0, none⟩), .int .u32 (x : Int), .int .i64 (now + 86400)] W fun r w' => r = .returned (mV 0 0 0) ∧ Below W.heap.size W w' := by
  obtain ⟨b1, b2, b3⟩ := h.bd h0 (by omega)
  have hq := bmark B R x _ _ _ (now + 86400) _ W h.bk h.gets b1 b2 b3 (inI_mk (by omega) (by omega))
  obtain ⟨e1, e2, e3⟩ := fin_bd _ _ _ now (now + 86400) h.cases h0 rfl
  rw [e1, e2, e3] at hq
  exact hq
theorem Fs.ban0 {w W : World} {B R x : Nat} {o : Option Mk} {now : Int} (h : Fs w W B R x o now) (h0 : 0 ≤ now) (h1 : now ≤ 1000000000000) :
    Calls Tryd.prog 24 #[.pointer (some ⟨B, 0, none⟩), .int .u32 (x : Int), .int .i64 (now + 86400)] W fun r w' => r = .returned (.bool false) ∧ Below W.heap.size W w' :=
  bbanned B x 0 0 0 (now + 86400) W (h.mark0 h0 h1) (inI_mk (by omega) (by omega)) (inI_mk (by omega) (by omega)) (by unfold btw; rw [if_pos (by omega)])
theorem Fs.swept {w W : World} {B R x : Nat} {m : Mk} {now : Int} (h : Fs w W B R x (some m) now) (h0 : 0 ≤ now) (h1 : now ≤ 1000000000000) :
    Calls Tryd.prog 21 #[.pointer (some ⟨B, 0, none⟩), .int .i64 (now + 86400)] W fun r w' => r = .returned (.int .i64 1) ∧ Fs w w' B R x none now := by
  obtain ⟨vi, vt, hr⟩ := h.rack
  refine (bsweep_one B R x (now + 86400) 3 vi vt m W h.bk hr (bk_ne h.bk hr) fun W' hb => (h.after hb).mark0 h0 h1).mono ?_
  rintro r w' ⟨rfl, hb, hk, hi⟩
  exact ⟨rfl, h.bel.trans (hb.mono h.hR), h.hR, h.hB, hk, hi, fun m e => by cases e⟩
theorem Fs.swept0 {w W : World} {B R x : Nat} {now : Int} (h : Fs w W B R x none now) :
    Calls Tryd.prog 21 #[.pointer (some ⟨B, 0, none⟩), .int .i64 (now + 86400)] W fun r w' => r = .returned (.int .i64 0) ∧ Fs w w' B R x none now := by
  obtain ⟨vi, vt, hr⟩ := h.rack
  refine (bsweep_none B R (now + 86400) 3 vi vt W h.bk hr).mono ?_
  rintro r w' ⟨rfl, hb⟩
  exact ⟨rfl, h.after hb⟩
theorem Fs.many {w W : World} {B R x : Nat} {o : Option Mk} {now : Int} (h : Fs w W B R x o now) : Calls Tryd.prog 26 #[.pointer (some ⟨B, 0, none⟩)] W fun r w' => ∃ (A : Option Addr) (c : Nat), r = .returned (.slice A (idl x o).length c) ∧ Fs w w' B R x o now := by
  obtain ⟨vi, vt, hr⟩ := h.rack
  refine (bplayers B R 3 vi vt (idl x o) o.toList W h.bk hr (by cases o <;> simp [idl])).mono ?_
  rintro r w' ⟨v', rfl, hv, hb⟩
  obtain ⟨A, c, rfl⟩ := own_form1 hv
  exact ⟨A, c, rfl, h.after hb⟩
set_option linter.unusedSimpArgs false in
set_option maxHeartbeats 8000000 in
theorem forgets_walk (A : Option Addr) (c : Nat) (l : List Nat) (x : Int) (w : World) (hlw : Lw w) (hz : 0 < w.heap.size) (hs : S32 w (.slice A l.length c) l) (hl : l.length ≤ 9223372036854775807 ∧ ∀ y ∈ l, y < 4294967296) (hx : 0 ≤ x ∧ x ≤ 4294967295) :
    Calls Tryd.prog 8 #[.slice A l.length c, .int .u32 x] w fun r w' => r = .returned (.bool true) ∧ Below w.heap.size w w' := by
  obtain ⟨x, rfl⟩ : ∃ n : Nat, x = (n : Int) := ⟨x.toNat, by omega⟩
  obtain ⟨N, hN⟩ : ∃ N, N = l.length := ⟨_, rfl⟩
  have HN := Lib.hid hN
  have HE : Hid (∀ i, i < N → ∃ (y b o : Nat), A = some ⟨b, o, none⟩ ∧ b < w.heap.size ∧ y < 4294967296 ∧ w.cell? ⟨b, o + i, none⟩ = some (.int .u32 (y : Int))) := fun i hi => by
    obtain ⟨A', c', h1, h2⟩ := hs
    injection h1 with e1 _ e3
    subst e1 e3
    obtain ⟨b, o, h3, h4, h5⟩ := h2 (by omega)
    exact ⟨l[i]'(by omega), b, o, h3, h4, hl.2 _ (List.getElem_mem _), h5 i _ (List.getElem?_eq_getElem (by omega))⟩
  rw [← hN] at hl ⊢
  have hl0 := hl.1
  clear hs hN hl
  by_cases h1 : 20 < N
  · have t : decide ((N : Int) > 20) = true := by rw [decide_eq_true_iff]; omega
    go_enter Tryd.func8, Tryd.ntmps8
    go_wp2
    go_ret
    exact ⟨rfl, Below.refl _ _⟩
  have t : decide ((N : Int) > 20) = false := by rw [decide_eq_false_iff_not]; omega
  have HNEW := Lib.hid (bnew w)
  have HLW := Lib.hid hlw
  have HZ := Lib.hid hz
  clear hlw hz
  go_enter Tryd.func8, Tryd.ntmps8
  go_wp2_with fail
  refine HNEW.out.mono ?_
  rintro r w1 ⟨B, R, rfl, hR, hB, hbk, hr, hb⟩
  have HS0 : Hid (Fs w w1 B R x none 0) := ⟨hb, hR, hB, hbk, ⟨_, _, hr⟩, fun m e => by cases e⟩
  clear hR hB hbk hr hb HNEW
  go_wp2_with fail
  go_loopw [6, 7, 8] (fun nw mv iv wr => ∃ (k : Nat) (now many : Int) (o : Option Mk), k ≤ N ∧ nw = .int .i64 now ∧ mv = .int .i64 many ∧ iv = .int .i64 (k : Int) ∧ (0 ≤ now ∧ now ≤ (k : Int) * 4294967295) ∧ (0 ≤ many ∧ many ≤ (k : Int)) ∧ Hid ((o = none ∧ many = 0) ∨ (∃ m, o = some m ∧ 1 ≤ many)) ∧ Hid (Fs w wr B R x o now)) (fun _ _ iv _ => N - (intOf iv).toNat)
  case atStart => exact ⟨0, 0, 0, none, by omega, rfl, rfl, rfl, by omega, by omega, .inl ⟨rfl, rfl⟩, HS0⟩
  case round =>
    obtain ⟨k, now, many, o, hk, rfl, rfl, rfl, hnow, hmany, HO, HS⟩ := hrel
    by_cases hlt : k < N
    · obtain ⟨y, b1, o1, rfl, hb1, hy, hc⟩ := HE.out k hlt
      have d0 := (HS.out.bel.cell (p := ⟨b1, _, none⟩) hb1).trans hc
      clear hc hb1
      have hw1 : IntKind.i64.wrap (y : Int) = (y : Int) := by rw [IntKind.wrap_i64]; omega
      have hw2 : IntKind.i64.wrap (now + (y : Int)) = now + (y : Int) := by rw [IntKind.wrap_i64]; omega
      have hw3 : IntKind.i64.wrap (many + 1) = many + 1 := by rw [IntKind.wrap_i64]; omega
      have HH := Lib.hid (hit_step w wr B R x o now (now + (y : Int)) HLW.out HZ.out HS.out hnow.1 (by omega) (by omega))
      go_wp2_with fail
      refine HH.out.mono ?_
      rintro r w2 ⟨q1, q2, q3, e, o', rfl, hf, hcase⟩
      have HF := Lib.hid (hf.after ((Below.refl _ w2).alloc (Nat.le_refl _) (.cells (mC q1 q2 q3) 24)))
      clear hf
      rcases hcase with ⟨rfl, rfl, rfl⟩ | ⟨rfl, m, rfl⟩
      · have hm0 : many = 0 := by
          rcases HO.out with ⟨_, h⟩ | ⟨m, h, _⟩
          · exact h
          · cases h
        subst hm0
        go_wp2
        go_roundw
        case rel => exact ⟨k + 1, now + (y : Int), 0, none, by omega, by go_num, by go_num, by go_num, by omega, by omega, .inl ⟨rfl, rfl⟩, HF.out⟩
        case measure => simp [intOf] <;> omega
      · go_wp2
        go_roundw
        case rel => exact ⟨k + 1, now + (y : Int), many + 1, some m, by omega, by go_num, by go_num, by go_num, by omega, by omega, .inr ⟨m, rfl, by omega⟩, HF.out⟩
        case measure => simp [intOf] <;> omega
    · have hkN : k = N := by omega
      subst hkN
      have hn1 : now ≤ 1000000000000 := by omega
      have HW : Hid (∀ W, Below w.heap.size w W → Calls Tryd.prog 16 #[] W fun r w' => r = .returned (.bool true) ∧ Below W.heap.size W w') := fun W hb => nawake W (HLW.out.below hb HZ.out) (Nat.lt_of_lt_of_le HZ.out hb.size)
      have HNB := Lib.hid (And.intro hnow.1 hn1)
      go_wp2_with fail
      refine HS.out.many.mono ?_
      rintro r w2 ⟨A2, c2, rfl, hf2⟩
      rcases o with _ | m
      · have hm0 : many = 0 := by
          rcases HO.out with ⟨_, h⟩ | ⟨m, h, _⟩
          · exact h
          · cases h
        have hmin : min many 1 = 0 := by omega
        clear hm0
        have e0 : (idl x none).length = 0 := rfl
        rw [e0]
        have HS2 := Lib.hid hf2.swept0
        clear hf2
        go_wp2_with fail
        refine HS2.out.mono ?_
        rintro r w3 ⟨rfl, hf3⟩
        have HF3 := Lib.hid hf3
        clear hf3
        go_wp2_with fail
        refine (HF3.out.mark0 HNB.out.1 HNB.out.2).mono ?_
        rintro r w4 ⟨rfl, hb4⟩
        have HF4 := Lib.hid (HF3.out.after hb4)
        clear hb4
        go_wp2_with fail
        refine (HF4.out.ban0 HNB.out.1 HNB.out.2).mono ?_
        rintro r w5 ⟨rfl, hb5⟩
        have HF5 := Lib.hid (HF4.out.after hb5)
        clear hb5
        go_wp2_with fail
        refine (HW.out _ HF5.out.bel).mono ?_
        rintro r w6 ⟨rfl, hb6⟩
        go_wp2_with fail
        go_ret
        exact ⟨rfl, HF5.out.bel.trans (hb6.mono HF5.out.bel.size)⟩
      · have hm0 : 1 ≤ many := by
          rcases HO.out with ⟨h, _⟩ | ⟨m', _, h⟩
          · cases h
          · exact h
        have hmin : min many 1 = 1 := by omega
        have e0 : (idl x (some m)).length = 1 := rfl
        rw [e0]
        have HS2 := Lib.hid (hf2.swept HNB.out.1 HNB.out.2)
        clear hf2
        go_wp2_with fail
        refine HS2.out.mono ?_
        rintro r w3 ⟨rfl, hf3⟩
        have HF3 := Lib.hid hf3
        clear hf3
        go_wp2_with fail
        refine (HF3.out.mark0 HNB.out.1 HNB.out.2).mono ?_
        rintro r w4 ⟨rfl, hb4⟩
        have HF4 := Lib.hid (HF3.out.after hb4)
        clear hb4
        go_wp2_with fail
        refine (HF4.out.ban0 HNB.out.1 HNB.out.2).mono ?_
        rintro r w5 ⟨rfl, hb5⟩
        have HF5 := Lib.hid (HF4.out.after hb5)
        clear hb5
        go_wp2_with fail
        refine (HW.out _ HF5.out.bel).mono ?_
        rintro r w6 ⟨rfl, hb6⟩
        go_wp2_with fail
        go_ret
        exact ⟨rfl, HF5.out.bel.trans (hb6.mono HF5.out.bel.size)⟩
end Go.Proofs.YtfcogjdnnnpmdaaDoor
