/- Rack: RackBound's walk. -/
import Derived.Test.YtbilkelbelimjaaK8
import Derived.Test.YtbilkelbelimjaaK9
namespace Go.Proofs.Ytbilkelbelimjaa
open Go.RowKit
set_option maxRecDepth 20000

theorem add_any (R : Nat) (most : Int) (vi vt : Value) (ids : List Nat) (ths : List Int) (x : Nat) (z : Int) (w : World) (h : IsR w R most vi vt ids ths) (hl : ids.length < 1000) :
    Calls Try.prog 17 #[.pointer (some ⟨R, 0, none⟩), .int .u32 (x : Int), .int .i64 z] w fun r w' => (∃ c : Int, (c = 10 ∨ c = 11 ∨ c = 14) ∧ r = .returned (.int .i64 c) ∧ Below w.heap.size w w') ∨
      (r = .returned (.int .i64 0) ∧ ChR R vi vt w w' ∧ ∃ vi' vt' ids' ths', IsR w' R most vi' vt' ids' ths' ∧ ids'.length = ids.length + 1 ∧ (ids.length : Int) < min most 2147483647) := by
  by_cases hx : x ∈ ids
  · exact (add_there R most vi vt ids ths x z w h (Nat.le_of_lt hl) hx).mono fun _ _ ⟨h1, h2⟩ => .inl ⟨11, by simp, h1, by rw [h2]; exact Below.refl _ _⟩
  by_cases hok : 1 ≤ x ∧ x ≤ 2147483647
  · by_cases hf : min most 2147483647 ≤ (ids.length : Int)
    · exact (add_full R most vi vt ids ths x z w h (Nat.le_of_lt hl) hx hok hf).mono fun _ _ ⟨h1, h2⟩ => .inl ⟨10, by simp, h1, h2⟩
    · exact (add_ok R most vi vt ids ths x z w h hl hx hok (by omega)).mono fun _ _ ⟨h1, h2, p, vi', vt', hp, h3⟩ => .inr ⟨h1, h2, vi', vt', _, _, h3, ins_len _ _ _ hp.1, by omega⟩
  · exact (add_id R most vi vt ids ths x z w h (Nat.le_of_lt hl) hok).mono fun _ _ ⟨h1, h2⟩ => .inl ⟨14, by simp, h1, by rw [h2]; exact Below.refl _ _⟩

set_option linter.unusedSimpArgs false in
set_option maxHeartbeats 20000000 in
theorem rbound_walk (y : Nat) (u : Option Addr × Nat) (l : List Nat) (w : World) (hy : y ≤ 255) (hs : S32 w (.slice u.1 l.length u.2) l) (hl : l.length ≤ 9223372036854775807) (_hb : ∀ x ∈ l, x < 4294967296) :
    Calls Try.prog 5 #[.int .u8 (y : Int), .slice u.1 l.length u.2] w fun r w' => r = .returned (.bool true) ∧ Below w.heap.size w w' := by
  obtain ⟨A, c⟩ := u
  obtain ⟨A', c', e, hs⟩ := hs
  injection e with e1 _ e3
  subst e1 e3
  obtain ⟨n, hn⟩ : ∃ n, n = l.length := ⟨_, rfl⟩
  simp only
  rw [← hn] at hs hl ⊢
  have HS := Lib.hid hs
  have HN := Lib.hid hn
  clear hs hn
  by_cases h1 : 60 < n
  · have t : decide ((n : Int) > 60) = true := by rw [decide_eq_true_iff]; omega
    go_enter Try.func5, Try.ntmps5
    go_wp2
    go_ret
    exact ⟨rfl, Below.refl _ _⟩
  have t1 : decide ((n : Int) > 60) = false := by rw [decide_eq_false_iff_not]; omega
  by_cases h2 : 40 < y
  · have t2 : decide ((y : Int) > 40) = true := by rw [decide_eq_true_iff]; omega
    go_enter Try.func5, Try.ntmps5
    go_wp2
    go_ret
    exact ⟨rfl, Below.refl _ _⟩
  have t2 : decide ((y : Int) > 40) = false := by rw [decide_eq_false_iff_not]; omega
  have HNEW := Lib.hid (new_any (y : Int) w)
  rw [show max (y : Int) 0 = (y : Int) by omega] at HNEW
  obtain ⟨R, hR⟩ : ∃ R, R = w.heap.size := ⟨_, rfl⟩
  rw [← hR] at HNEW
  have HR := Lib.hid hR
  clear hR
  go_enter Try.func5, Try.ntmps5
  go_wp2_with fail
  refine HNEW.out.mono ?_
  rintro r w1 ⟨rfl, h1', hb1⟩
  have HI1 := Lib.hid h1'
  have HB1 : Hid (Below w.heap.size w w1) := by rw [← HR.out]; exact hb1
  clear h1' hb1 t1 t2
  go_wp2_with fail
  go_loopw [6] (fun v wr => ∃ (k : Nat) (vi vt : Value) (ids : List Nat) (ths : List Int), k ≤ n ∧ v = .int .i64 (k : Int) ∧ ids.length ≤ k ∧ ids.length ≤ y ∧ Hid (IsR wr R y vi vt ids ths) ∧ Hid (Below w.heap.size w wr)) (fun v _ => n - (intOf v).toNat)
  case atStart => exact ⟨0, _, _, [], [], by omega, rfl, by simp, by simp, HI1.out, HB1.out⟩
  case round =>
    obtain ⟨k, vi, vt, ids, ths, hk, rfl, hik, hiy, HI, HB⟩ := hrel
    by_cases hlt : k < n
    · obtain ⟨x, hx⟩ : ∃ x, l[k]? = some x := ⟨l[k]'(by rw [← HN.out]; exact hlt), List.getElem?_eq_getElem _⟩
      obtain ⟨b1, o1, rfl, hb1, ha1⟩ := HS.out (by omega)
      have HX : Hid (∀ W, Below w.heap.size w W → W.cell? ⟨b1, o1 + k, none⟩ = some (.int .u32 (x : Int))) := fun W hW => (hW.cell (p := ⟨b1, _, none⟩) hb1).trans (ha1 k x hx)
      clear hx ha1 hb1
      go_wp2_with fail
      refine (ids_any R y vi vt ids ths wr HI.out (by omega)).mono ?_
      rintro r w2 ⟨vw, rfl, hvw, hb2⟩
      have H2 := Lib.hid (HI.out.after hb2)
      have HB2 : Hid (Below w.heap.size w w2) := HB.out.trans (hb2.mono HB.out.size)
      have HW2 := Lib.hid hvw
      have HLI : Hid (∀ g, vi.ownBlock = some g ∨ vt.ownBlock = some g ∨ R = g → g < wr.heap.size) := fun g hg => by
        rcases hg with hg | hg | hg
        · exact (ownlt HI.out.rio g hg).2
        · exact (ownlt HI.out.rto g hg).2
        · rw [← hg]; exact lt_of_block HI.out.row
      clear hb2 hvw
      have d := HX.out w2 HB2.out
      go_wp2_with fail
      refine (add_any R y vi vt ids ths x k w2 H2.out (by omega)).mono ?_
      rintro r w3 (⟨cc, hcc, rfl, hb3⟩ | ⟨rfl, hch, vi', vt', ids', ths', h3, hlen, hroom⟩)
      · have H3 := Lib.hid (H2.out.after hb3)
        have HB3 : Hid (Below w.heap.size w w3) := HB2.out.trans (hb3.mono HB2.out.size)
        have HWAS : Hid (S32 w3 vw ids) := (S32.of_own HW2.out).after hb3
        obtain ⟨Aw, cw, rfl⟩ := own_form1 HW2.out
        clear hb3 d
        rcases hcc with rfl | rfl | rfl
        all_goals
          go_wp2_with fail
          refine (ids_any R y vi vt ids ths w3 H3.out (by omega)).mono ?_
          rintro r w4 ⟨vn, rfl, hvn, hb4⟩
          have H4 := Lib.hid (H3.out.after hb4)
          have HB4 : Hid (Below w.heap.size w w4) := HB3.out.trans (hb4.mono HB3.out.size)
          have HNOW := Lib.hid (S32.of_own hvn)
          have HSM := Lib.hid (same_eq _ vn ids w4 (by omega) (HWAS.out.after hb4) HNOW.out)
          obtain ⟨An, cn, rfl⟩ := own_form1 hvn
          clear hvn hb4
          obtain ⟨q, hq⟩ : ∃ q, q = ids.length := ⟨_, rfl⟩
          rw [← hq] at HSM ⊢
          have HQ := Lib.hid hq
          have hqy : q ≤ y := by omega
          clear hq
          go_wp2_with fail
          refine HSM.out.mono ?_
          rintro r w5 ⟨rfl, hb5⟩
          have H5 := Lib.hid (H4.out.after hb5)
          have HB5 : Hid (Below w.heap.size w w5) := HB4.out.trans (hb5.mono HB4.out.size)
          clear hb5
          have HLN := Lib.hid (len_any R y vi vt ids ths w5 H5.out)
          rw [← HQ.out] at HLN
          go_wp2_with fail
          refine HLN.out.mono ?_
          rintro r w6 ⟨rfl, rfl⟩
          by_cases hfu : q = y
          · go_wp2_with fail
            refine (free_full R y vi vt ids ths w6 H5.out (by have := HQ.out; omega)).mono ?_
            rintro r w7 ⟨rfl, hb7⟩
            have H7 := Lib.hid (H5.out.after hb7)
            have HB7 : Hid (Below w.heap.size w w7) := HB5.out.trans (hb7.mono HB5.out.size)
            clear hb7
            go_wp2
            go_roundw
            case rel => exact ⟨k + 1, vi, vt, ids, ths, by omega, by go_num, by have := HQ.out; omega, by have := HQ.out; omega, H7.out, HB7.out⟩
            case measure => simp [intOf] <;> omega
          · go_wp2_with fail
            refine (free_some R y vi vt ids ths w6 H5.out (by have := HQ.out; omega) (by have := HQ.out; omega)).mono ?_
            rintro r w7 ⟨⟨g, hg, rfl⟩, hb7⟩
            have H7 := Lib.hid (H5.out.after hb7)
            have HB7 : Hid (Below w.heap.size w w7) := HB5.out.trans (hb7.mono HB5.out.size)
            have hg0 : ((g : Int) == 0) = false := by simp; omega
            have hqy2 : ((q : Int) == (y : Int)) = false := by simp; omega
            clear hb7
            go_wp2
            go_roundw
            case rel => exact ⟨k + 1, vi, vt, ids, ths, by omega, by go_num, by have := HQ.out; omega, by have := HQ.out; omega, H7.out, HB7.out⟩
            case measure => simp [intOf] <;> omega
      · have H3 := Lib.hid h3
        have HB3 : Hid (Below w.heap.size w w3) := HB2.out.trans (by rw [← HR.out]; exact hch.1)
        obtain ⟨Aw, cw, rfl⟩ := own_form1 HW2.out
        obtain ⟨n0, hn0⟩ : ∃ n, n = ids.length := ⟨_, rfl⟩
        rw [← hn0]
        have hi1 : ids'.length ≤ 61 := by omega
        have hr2 : ids.length < y := by omega
        clear h3 hch d
        go_wp2_with fail
        refine (ids_any R y vi' vt' ids' ths' w3 H3.out (by omega)).mono ?_
        rintro r w4 ⟨vn, rfl, hvn, hb4⟩
        have H4 := Lib.hid (H3.out.after hb4)
        have HB4 : Hid (Below w.heap.size w w4) := HB3.out.trans (hb4.mono HB3.out.size)
        have HNOW := Lib.hid (S32.of_own hvn)
        obtain ⟨An, cn, rfl⟩ := own_form1 hvn
        clear hvn hb4
        obtain ⟨q, hq⟩ : ∃ q, q = ids'.length := ⟨_, rfl⟩
        have hqo : q = n0 + 1 := by omega
        have hqy : q ≤ y := by omega
        rw [← hq]
        have HQ := Lib.hid hq
        clear hq
        have H5 := H4
        have HB5 := HB4
        have HLN := Lib.hid (len_any R y vi' vt' ids' ths' w4 H5.out)
        rw [← HQ.out] at HLN
        go_wp2_with fail
        refine HLN.out.mono ?_
        rintro r w6 ⟨rfl, rfl⟩
        by_cases hfu : q = y
        · go_wp2_with fail
          refine (free_full R y vi' vt' ids' ths' w6 H5.out (by have := HQ.out; omega)).mono ?_
          rintro r w7 ⟨rfl, hb7⟩
          have H7 := Lib.hid (H5.out.after hb7)
          have HB7 : Hid (Below w.heap.size w w7) := HB5.out.trans (hb7.mono HB5.out.size)
          have hqy3 : (((ids.length : Nat) : Int) + 1 == (y : Int)) = true := by simp; omega
          clear hb7
          go_wp2
          go_roundw
          case rel => exact ⟨k + 1, vi', vt', ids', ths', by omega, by go_num, by have := HQ.out; omega, by have := HQ.out; omega, H7.out, HB7.out⟩
          case measure => simp [intOf] <;> omega
        · go_wp2_with fail
          refine (free_some R y vi' vt' ids' ths' w6 H5.out (by have := HQ.out; omega) (by have := HQ.out; omega)).mono ?_
          rintro r w7 ⟨⟨g, hg, rfl⟩, hb7⟩
          have H7 := Lib.hid (H5.out.after hb7)
          have HB7 : Hid (Below w.heap.size w w7) := HB5.out.trans (hb7.mono HB5.out.size)
          have hg0 : ((g : Int) == 0) = false := by simp; omega
          have hqy2 : ((q : Int) == (y : Int)) = false := by simp; omega
          clear hb7
          go_wp2
          all_goals first | (exfalso; rename_i hz; simp at hz; omega) | skip
          go_roundw
          case rel => exact ⟨k + 1, vi', vt', ids', ths', by omega, by go_num, by have := HQ.out; omega, by have := HQ.out; omega, H7.out, HB7.out⟩
          case measure => simp [intOf] <;> omega
    · have hkn : k = n := by omega
      subst hkn
      go_wp2_with fail
      refine (rawake wr).mono ?_
      rintro r w2 ⟨rfl, hb2⟩
      go_wp2
      go_ret
      exact ⟨rfl, HB.out.trans (hb2.mono HB.out.size)⟩
end Go.Proofs.Ytbilkelbelimjaa
