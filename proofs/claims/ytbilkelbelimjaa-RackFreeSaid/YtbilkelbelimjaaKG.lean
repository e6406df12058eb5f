/- Rack: RackFree's walk. -/
import Derived.Test.YtbilkelbelimjaaK8
import Derived.Test.YtbilkelbelimjaaKF
namespace Go.Proofs.Ytbilkelbelimjaa.B
open Go.RowKit
set_option maxRecDepth 20000

set_option linter.unusedSimpArgs false in
set_option maxHeartbeats 20000000 in
theorem rfree_walk (u : Option Addr × Nat) (l : List Nat) (u2 : Option Addr × Nat) (l2 : List Nat) (w : World) (hs : S32 w (.slice u.1 l.length u.2) l) (hl : l.length ≤ 9223372036854775807) (_hb : ∀ x ∈ l, x < 4294967296)
    (hs2 : S32 w (.slice u2.1 l2.length u2.2) l2) (hl2 : l2.length ≤ 9223372036854775807) (_hb2 : ∀ x ∈ l2, x < 4294967296) :
    Calls Try.prog 6 #[.slice u.1 l.length u.2, .slice u2.1 l2.length u2.2] w fun r w' => r = .returned (.bool true) ∧ Below w.heap.size w w' := by
  obtain ⟨A, c⟩ := u
  obtain ⟨A', c', e, hs⟩ := hs
  injection e with e1 _ e3
  subst e1 e3
  obtain ⟨A2, c2⟩ := u2
  obtain ⟨A2', c2', e, hs2⟩ := hs2
  injection e with e1 _ e3
  subst e1 e3
  obtain ⟨n, hn⟩ : ∃ n, n = l.length := ⟨_, rfl⟩
  obtain ⟨m, hm⟩ : ∃ n, n = l2.length := ⟨_, rfl⟩
  simp only
  rw [← hn] at hs hl ⊢
  rw [← hm] at hs2 hl2 ⊢
  have HS := Lib.hid hs
  have HN := Lib.hid hn
  have HS2 := Lib.hid hs2
  have HM := Lib.hid hm
  clear hs hn hs2 hm
  by_cases h1 : 40 < n
  · have t : decide ((n : Int) > 40) = true := by rw [decide_eq_true_iff]; omega
    go_enter Try.func6, Try.ntmps6
    go_wp2
    go_ret
    exact ⟨rfl, Below.refl _ _⟩
  have t1 : decide ((n : Int) > 40) = false := by rw [decide_eq_false_iff_not]; omega
  by_cases h2 : 40 < m
  · have t2 : decide ((m : Int) > 40) = true := by rw [decide_eq_true_iff]; omega
    go_enter Try.func6, Try.ntmps6
    go_wp2
    go_ret
    exact ⟨rfl, Below.refl _ _⟩
  have t2 : decide ((m : Int) > 40) = false := by rw [decide_eq_false_iff_not]; omega
  have HNEW := Lib.hid (new_any 41 w)
  rw [show max (41 : Int) 0 = 41 by decide] at HNEW
  obtain ⟨R, hR⟩ : ∃ R, R = w.heap.size := ⟨_, rfl⟩
  rw [← hR] at HNEW
  have HR := Lib.hid hR
  clear hR
  go_enter Try.func6, Try.ntmps6
  go_wp2_with fail
  refine HNEW.out.mono ?_
  rintro r w1 ⟨rfl, h1', hb1⟩
  have HI1 := Lib.hid h1'
  have HB1 : Hid (Below w.heap.size w w1) := by rw [← HR.out]; exact hb1
  clear h1' hb1 t1 t2
  go_wp2_with fail
  go_loopw [6] (fun v wr => ∃ (k : Nat) (vi vt : Value) (ids : List Nat) (ths : List Int), k ≤ n ∧ v = .int .i64 (k : Int) ∧ ids.length ≤ k ∧ Hid (IsR wr R 41 vi vt ids ths) ∧ Hid (Below w.heap.size w wr)) (fun v _ => n - (intOf v).toNat)
  case atStart => exact ⟨0, _, _, [], [], by omega, rfl, by simp, HI1.out, HB1.out⟩
  case round =>
    obtain ⟨k, vi, vt, ids, ths, hk, rfl, hik, HI, HB⟩ := hrel
    by_cases hlt : k < n
    · obtain ⟨x, hx⟩ : ∃ x, l[k]? = some x := ⟨l[k]'(by rw [← HN.out]; exact hlt), List.getElem?_eq_getElem _⟩
      obtain ⟨b1, o1, rfl, hb1, ha1⟩ := HS.out (by omega)
      have d := (HB.out.cell (p := ⟨b1, _, none⟩) hb1).trans (ha1 k x hx)
      clear hx ha1 hb1
      go_wp2_with fail
      refine (put_any R 41 vi vt ids ths x 1 wr HI.out (by omega)).mono ?_
      rintro r w2 ⟨⟨v, rfl⟩, hbw, vi', vt', ids', ths', h2', hlen⟩
      have H2 := Lib.hid h2'
      have HB2 : Hid (Below w.heap.size w w2) := HB.out.trans (by rw [← HR.out]; exact hbw)
      clear h2' hbw d
      go_wp2
      go_roundw
      case rel => exact ⟨k + 1, vi', vt', ids', ths', by omega, by go_num, by omega, H2.out, HB2.out⟩
      case measure => simp [intOf] <;> omega
    · have hkn : k = n := by omega
      have hid40 : ids.length ≤ 40 := by omega
      subst hkn
      clear hik hlt
      go_wp2_with fail
      go_loopw [7] (fun v wr2 => ∃ (j : Nat) (vi vt : Value) (ids : List Nat) (ths : List Int), j ≤ m ∧ v = .int .i64 (j : Int) ∧ ids.length ≤ 40 ∧ Hid (IsR wr2 R 41 vi vt ids ths) ∧ Hid (Below w.heap.size w wr2)) (fun v _ => m - (intOf v).toNat)
      case atStart => exact ⟨0, vi, vt, ids, ths, by omega, rfl, hid40, HI.out, HB.out⟩
      case round =>
        clear HI HB HI1 HB1 hid40
        clear vi vt ids ths
        obtain ⟨j, vi, vt, ids, ths, hj, rfl, hid40, HI, HB⟩ := hrel
        by_cases hlt2 : j < m
        · obtain ⟨x, hx⟩ : ∃ x, l2[j]? = some x := ⟨l2[j]'(by rw [← HM.out]; exact hlt2), List.getElem?_eq_getElem _⟩
          obtain ⟨b1, o1, rfl, hb1, ha1⟩ := HS2.out (by omega)
          have d := (HB.out.cell (p := ⟨b1, _, none⟩) hb1).trans (ha1 j x hx)
          clear hx ha1 hb1
          go_wp2_with fail
          refine (drop_any R 41 vi vt ids ths x _ HI.out (by omega)).mono ?_
          rintro r w2 ⟨⟨v, rfl⟩, hbw, vi', vt', ids', ths', h2', hlen⟩
          have H2 := Lib.hid h2'
          have HB2 : Hid (Below w.heap.size w w2) := HB.out.trans (by rw [← HR.out]; exact hbw)
          clear h2' hbw d
          go_wp2
          go_roundw
          case rel => exact ⟨j + 1, vi', vt', ids', ths', by omega, by go_num, by omega, H2.out, HB2.out⟩
          case measure => simp [intOf] <;> omega
        · have hjm : j = m := by omega
          subst hjm
          clear hlt2
          go_wp2_with fail
          refine (free_least R 41 vi vt ids ths _ HI.out (by omega) (by omega)).mono ?_
          rintro r w3 ⟨⟨f, hfr, rfl⟩, hb3⟩
          have hf1 := hfr.1
          have hf2 : f ≤ 41 := by have := hfr.2.1; omega
          have HF := Lib.hid hfr
          have H3 := Lib.hid (HI.out.after hb3)
          have HB3 : Hid (Below w.heap.size w w3) := HB.out.trans (hb3.mono HB.out.size)
          clear hfr hb3
          go_wp2_with fail
          go_loopw [9] (fun v wr3 => ∃ i : Nat, 1 ≤ i ∧ i ≤ f ∧ v = .int .u32 (i : Int) ∧ Hid (IsR wr3 R 41 vi vt ids ths) ∧ Hid (Below w.heap.size w wr3)) (fun v _ => f - (intOf v).toNat)
          case atStart => exact ⟨1, by omega, hf1, rfl, H3.out, HB3.out⟩
          case round =>
            clear H3 HB3 HI HB
            obtain ⟨i, hi1, hif, rfl, HI, HB⟩ := hrel
            by_cases hlt3 : i < f
            · have hG := get_any R 41 vi vt ids ths i _ HI.out (by omega)
              rw [show decide (i ∈ ids) = true from decide_eq_true (HF.out.2.2.2 i hi1 hlt3)] at hG
              have HG := Lib.hid hG
              clear hG
              have hu : IntKind.u32.wrap ((i : Int) + 1) = (i : Int) + 1 := by rw [IntKind.wrap_u32]; omega
              go_wp2_with fail
              refine HG.out.mono ?_
              rintro r w4 ⟨⟨v, rfl⟩, hb4⟩
              have H4 := Lib.hid (HI.out.after hb4)
              have HB4 : Hid (Below w.heap.size w w4) := HB.out.trans (hb4.mono HB.out.size)
              clear hb4
              go_wp2
              go_roundw
              case rel => exact ⟨i + 1, by omega, by omega, by go_num, H4.out, HB4.out⟩
              case measure => simp [intOf] <;> omega
            · have hif' : i = f := by omega
              subst hif'
              clear hlt3
              have hG := get_any R 41 vi vt ids ths i _ HI.out (by omega)
              rw [show decide (i ∈ ids) = false from decide_eq_false HF.out.2.2.1] at hG
              have HG := Lib.hid hG
              clear hG
              go_wp2_with fail
              refine HG.out.mono ?_
              rintro r w4 ⟨⟨v, rfl⟩, hb4⟩
              have H4 := Lib.hid (HI.out.after hb4)
              have HB4 : Hid (Below w.heap.size w w4) := HB.out.trans (hb4.mono HB.out.size)
              clear hb4
              go_wp2_with fail
              refine (add_ok R 41 vi vt ids ths i 2 w4 H4.out (by omega) HF.out.2.2.1 ⟨by omega, by omega⟩ (by omega)).mono ?_
              rintro r w5 ⟨rfl, hch, -⟩
              have HB5 : Hid (Below w.heap.size w w5) := HB4.out.trans (by rw [← HR.out]; exact hch.1)
              clear hch
              go_wp2_with fail
              refine (rawake w5).mono ?_
              rintro r w6 ⟨rfl, hb6⟩
              go_wp2
              go_ret
              exact ⟨rfl, HB5.out.trans (hb6.mono HB5.out.size)⟩
end Go.Proofs.Ytbilkelbelimjaa.B
