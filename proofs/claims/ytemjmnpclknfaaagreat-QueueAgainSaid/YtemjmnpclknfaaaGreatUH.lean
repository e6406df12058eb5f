/- Queue: Mode. -/
import Derived.Test.YtemjmnpclknfaaaGreatUG
namespace Go.Proofs.YtemjmnpclknfaaaGreat.T
open Go.RowKit
open Go.Proofs.YtemjmnpclknfaaaGreat.P (Sl un)
set_option maxRecDepth 20000
set_option linter.unusedVariables false
set_option linter.unusedSimpArgs false

def QModeP (R : Nat) (vi : Value) (L : List Tk) (m : Int) (w : World) (r : Ending) (w' : World) : Prop := ∃ (A : Option Addr) (n c : Nat) (lf : List (Sl × Tk)), r = .returned (.slice A n c) ∧ n = lf.length ∧ (lf.map (·.2)).Perm (L.filter fun e => decide (e.md = m)) ∧ (lf.map (·.2)).Pairwise leT ∧ (∀ e ∈ lf, P.Fl w' R vi e.1 e.2.mem) ∧ (0 < n → ∃ g, A = some ⟨g, 0, none⟩ ∧ w.heap.size ≤ g ∧ Rt w' g lf) ∧ Below w.heap.size w w'
set_option maxHeartbeats 8000000 in
theorem qmode_any (B R : Nat) (mo : Int) (vi : Value) (ms : Sl) (L : List Tk) (m : Int) (w : World) (h : Bq w B R mo vi ms L) (hl : L.length ≤ 1000) (hm : ∀ e ∈ L, e.mem.length ≤ 1000) :
    Calls Tryz.prog 20 #[qp B, .int .i64 m] w fun r w' => QModeP R vi L m w r w' := by
  have HQB := Lib.hid h
  have HM := Lib.hid hm
  have HOF := Lib.hid (of_any m w)
  obtain ⟨KF, hKF⟩ : ∃ K, K = w.heap.size := ⟨_, rfl⟩
  obtain ⟨w1, hw1⟩ : ∃ W, W = w.alloc (.cells #[.int .i64 m] 3) := ⟨_, rfl⟩
  rw [← hw1, ← hKF] at HOF
  have hb1 : Below w.heap.size w w1 := by rw [hw1]; exact (Below.refl _ _).alloc (Nat.le_refl _) _
  have hq1 : w1.heap[KF]? = some (.cells #[.int .i64 m] 3 (0, 0)) := by rw [hw1, hKF]; exact heap_alloc_new w _
  have HTS := Lib.hid (those_96 B R mo vi ms L KF (fun e => decide (e.md = m)) w1 (h.after hb1) hl (fun W e s' hW he hf =>
    mode_cl e.id e.md e.rt e.sn m s' KF W (Nat.lt_of_lt_of_le (lt_of_block hq1) hW.size) (by
      rw [cell_of_row W KF 0 _ _ _ ((hW.block KF (lt_of_block hq1)).trans hq1)]
      rfl)))
  have HB1 := Lib.hid hb1
  have HL := Lib.hid hl
  clear h hl hm hw1 hb1 hq1 hKF
  go_enter Tryz.func20, Tryz.ntmps20
  go_wp2_with fail
  refine HOF.out.mono ?_
  rintro r w1' ⟨rfl, hw⟩
  subst hw
  go_wp2_with fail
  refine HTS.out.mono ?_
  rintro r w2 ⟨A, n, c, rfl, hpw, hb2⟩
  have HB2 : Hid (Below w.heap.size w w2) := HB1.out.trans (hb2.mono HB1.out.size)
  have hn1 : n ≤ 1000 := by
    have h1 := hpw.len
    have h2 : (L.filter fun e => decide (e.md = m)).length ≤ L.length := List.length_filter_le _ _
    have := HL.out
    omega
  have HSO := Lib.hid (sort_tk R vi w1'.heap.size A n c _ w2 hpw hn1)
  clear hpw hb2 HTS
  go_wp2_with fail
  refine HSO.out.mono ?_
  rintro r w3 ⟨rfl, lf0, hpm, hso, hfl, hnl, hrt, hb3⟩
  have HB3 : Hid (Below w.heap.size w w3) := HB2.out.trans (hb3.mono HB1.out.size)
  obtain ⟨LS, hLS⟩ : ∃ l, l = lf0.map (·.2) := ⟨_, rfl⟩
  have HPM : Hid (LS.Perm (L.filter fun e => decide (e.md = m))) := by rw [hLS]; exact hpm
  have HSR : Hid (LS.Pairwise leT) := by rw [hLS]; exact hso
  have HNL : Hid (n = LS.length) := by rw [hLS, Hid, List.length_map]; exact hnl
  have HGA : Hid (0 < n → ∃ g, A = some ⟨g, 0, none⟩ ∧ w.heap.size ≤ g) := fun h0 => by
    obtain ⟨g, e, hg, _⟩ := hrt h0
    exact ⟨g, e, Nat.le_trans HB1.out.size hg⟩
  have HST : Hid (lf0.map (·.2) = LS ∧ (∀ g, 0 < n → A = some ⟨g, 0, none⟩ → Rt w3 g lf0) ∧ (∀ e ∈ lf0, P.Fl w3 R vi e.1 e.2.mem) ∧ Below w.heap.size w w3) := ⟨hLS.symm, fun g h0 he => by
    obtain ⟨g', e, _, h⟩ := hrt h0
    rw [e] at he
    injection he with he
    injection he with he
    subst he
    exact h, hfl, HB3.out⟩
  clear hpm hso hfl hnl hrt hb3 hLS HSO
  go_wp2_with fail
  go_loopw [16] (fun u wr => ∃ (k : Nat) (lf : List (Sl × Tk)), k ≤ n ∧ u = .int .i64 (k : Int) ∧ Hid (lf.map (·.2) = LS ∧ (∀ g, 0 < n → A = some ⟨g, 0, none⟩ → Rt wr g lf) ∧ (∀ e ∈ lf, P.Fl wr R vi e.1 e.2.mem) ∧ Below w.heap.size w wr)) (fun u _ => n - (intOf u).toNat)
  case atStart => exact ⟨0, lf0, by omega, rfl, HST.out⟩
  case round =>
    obtain ⟨k, lf, hk, rfl, HV⟩ := hrel
    by_cases hlt : k < n
    · obtain ⟨g, rfl, hg⟩ := HGA.out (by omega)
      have hll : lf.length = LS.length := by rw [← HV.out.1, List.length_map]
      obtain ⟨e, he⟩ : ∃ e, lf[k]? = some e := ⟨lf[k]'(by rw [hll, ← HNL.out]; exact hlt), List.getElem?_eq_getElem _⟩
      have hrt := HV.out.2.1 g (by omega) rfl
      have hfe := HV.out.2.2.1 e (List.mem_of_getElem? he)
      have HE := Lib.hid he
      have hme : e.2 ∈ L := (List.mem_filter.1 (HPM.out.mem_iff.1 (by rw [← HV.out.1]; exact List.mem_map.2 ⟨e, List.mem_of_getElem? he, rfl⟩))).1
      obtain ⟨c0, c1, c2, c3, c4⟩ := hrt.cells he
      obtain ⟨G, hG⟩ : ∃ G, G = wr.heap.size := ⟨_, rfl⟩
      obtain ⟨w4, hw4⟩ : ∃ W, W = wr.alloc (.cells (mC e.2.id e.2.md e.1 e.2.rt e.2.sn) 39) := ⟨_, rfl⟩
      have hq4 : w4.heap[G]? = some (.cells (mC e.2.id e.2.md e.1 e.2.rt e.2.sn) 39 (0, 0)) := by rw [hw4, hG]; exact heap_alloc_new wr _
      have hb4 : Below wr.heap.size wr w4 := by rw [hw4]; exact (Below.refl _ _).alloc (Nat.le_refl _) _
      have z0 := cell_of_row w4 G 0 _ _ _ hq4
      have z1 := cell_of_row w4 G 1 _ _ _ hq4
      have z2 := cell_of_row w4 G 2 _ _ _ hq4
      have z3 := cell_of_row w4 G 3 _ _ _ hq4
      have z4 := cell_of_row w4 G 4 _ _ _ hq4
      simp at z0 z1 z2 z3 z4
      have HOWN := Lib.hid (own_any e.2.id e.2.md e.2.rt e.2.sn e.1 e.2.mem w4 hfe.1 (hfe.after hb4).rn (HM.out _ hme))
      have HR4 := Lib.hid (hrt.after hb4)
      have HF4 : Hid (∀ e ∈ lf, P.Fl w4 R vi e.1 e.2.mem) := fun e he => (HV.out.2.2.1 e he).after hb4
      have HB4 : Hid (Below w.heap.size w w4) := HV.out.2.2.2.trans (hb4.mono HV.out.2.2.2.size)
      have HGG := Lib.hid hG
      have H4 := Lib.hid hw4
      have HG0 := Lib.hid hg
      clear hrt hfe he hme hq4 hb4 hw4 hG hg hll
      go_upto_region 6 with (fail)
      rw [← H4.out, ← HGG.out]
      go_wp2_with fail
      refine HOWN.out.mono ?_
      rintro r w5 ⟨A5, c5, rfl, ho, hb5⟩
      have hr5 := HR4.out.after hb5
      have HFR : Hid (P.Fl w5 R vi ⟨A5, e.2.mem.length, c5⟩ e.2.mem) := P.Fl.fresh ((HQB.out.after HB4.out).ctx) (Nat.le_refl _) ho
      have HF5 : Hid (∀ e ∈ lf, P.Fl w5 R vi e.1 e.2.mem) := fun e he => (HF4.out e he).after hb5
      have HB5 : Hid (Below w.heap.size w w5) := HB4.out.trans (hb5.mono HB4.out.size)
      have HR5 := Lib.hid hr5
      obtain ⟨y0, y1, y2, y3, y4⟩ := hr5.cells HE.out
      have yf : ∀ i, w5.frozen? ⟨g, i, none⟩ = false := fun i => by
        obtain ⟨cur, hb, _⟩ := HR5.out
        exact frozen_of_row w5 g i _ _ hb
      obtain ⟨w6, hw6⟩ : ∃ W, W = (((((w5.setCell ⟨g, k * 5, none⟩ (.int .u32 (e.2.id : Int))).setCell ⟨g, k * 5 + 1, none⟩ (.int .i64 e.2.md)).setCell ⟨g, k * 5 + 2, none⟩ (.slice A5 e.2.mem.length c5)).setCell ⟨g, k * 5 + 3, none⟩ (.int .i64 e.2.rt)).setCell ⟨g, k * 5 + 4, none⟩ (.int .i64 e.2.sn)) := ⟨_, rfl⟩
      have HV6 : Hid ((lf.set k (⟨A5, e.2.mem.length, c5⟩, e.2)).map (·.2) = LS ∧ (∀ g', 0 < n → some (⟨g, 0, none⟩ : Addr) = some ⟨g', 0, none⟩ → Rt w6 g' (lf.set k (⟨A5, e.2.mem.length, c5⟩, e.2))) ∧ (∀ x ∈ lf.set k (⟨A5, e.2.mem.length, c5⟩, e.2), P.Fl w6 R vi x.1 x.2.mem) ∧ Below w.heap.size w w6) := by
        refine ⟨?_, fun g' h0 hg' => ?_, fun x hx => ?_, by rw [hw6]; exact put5_below (k * 5) _ _ _ _ _ HB5.out HG0.out⟩
        · rw [← HV.out.1, List.map_set]
          refine List.ext_getElem? fun i => ?_
          rw [List.getElem?_set]
          split
          · subst_vars
            rw [List.getElem?_map, HE.out]
            split
            · rfl
            · rename_i hh
              rw [List.length_map] at hh
              exact absurd (List.getElem?_eq_some_iff.1 HE.out).1 hh
          · rfl
        · injection hg' with hg'
          injection hg' with hg'
          subst hg'
          rw [hw6]
          exact HR5.out.set (e' := (⟨A5, e.2.mem.length, c5⟩, e.2)) HE.out
        · rw [hw6]
          rcases List.mem_or_eq_of_mem_set hx with hx | rfl
          · exact rt_fl HR5.out (HF5.out x hx) _ _ _ _ _ _
          · exact rt_fl HR5.out HFR.out _ _ _ _ _ _
      have HW6 := Lib.hid hw6
      clear hr5 ho hb5 hw6 z0 z1 z2 z3 z4 c0 c1 c2 c3 c4
      go_wp2_with fail
      go_roundw
      case rel => exact ⟨k + 1, _, by omega, by go_num, by first | exact HV6.out | (rw [← HW6.out]; exact HV6.out)⟩
      case measure => simp [intOf] <;> omega
    · have hkn : k = n := by omega
      subst hkn
      have HFIN : Hid (QModeP R vi L m w (.returned (.slice A k c)) wr) := ⟨A, k, c, lf, rfl, by rw [HNL.out, ← HV.out.1, List.length_map], by rw [HV.out.1]; exact HPM.out, by rw [HV.out.1]; exact HSR.out, HV.out.2.2.1, fun h0 => by
        obtain ⟨g, e, hg⟩ := HGA.out h0
        exact ⟨g, e, hg, HV.out.2.1 g h0 e⟩, HV.out.2.2.2⟩
      go_wp2
      go_ret
      exact HFIN.out
end Go.Proofs.YtemjmnpclknfaaaGreat.T
