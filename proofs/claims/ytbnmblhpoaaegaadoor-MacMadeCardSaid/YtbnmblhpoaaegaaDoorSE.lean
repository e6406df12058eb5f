/- However bytes are cut into parts: ShaParts returns true for every input. -/
import Derived.Test.YtbnmblhpoaaegaaDoorSD
namespace Go.Proofs.YtbnmblhpoaaegaaDoor
open Go.RowKit

theorem flat_few {ps : List (List UInt8)} (h : ∀ p ∈ ps, p.length ≤ 200) : ps.flatten.length ≤ 200 * ps.length := by
  induction ps with
  | nil => simp
  | cons p ps ih =>
    have h1 := h p (by simp)
    have h2 := ih (fun q hq => h q (by simp [hq]))
    rw [List.flatten_cons, List.length_append, List.length_cons]
    omega
theorem few_flat {ps : List (List UInt8)} (h : fewB ps = true) : ps.flatten.length ≤ 4000 := by
  unfold fewB at h
  rw [decide_eq_true_iff] at h
  have := flat_few h.1
  have := h.2
  omega
theorem ps_one {w : World} {H : Nat} {v : Value} {p : List UInt8} (h : Px w H v p) (hH : H < w.heap.size) (t : TypeId) : Ps (w.alloc (.cells #[v] t)) H (.slice (some ⟨w.heap.size, 0, none⟩) 1 1) [p] :=
  ⟨_, 1, rfl, by simp, fun _ => ⟨w.heap.size, 0, rfl, by omega, by simp, fun j hj => by
    obtain rfl : j = 0 := by simpa using hj
    exact ⟨v, by rw [cell_of_row _ _ _ _ _ _ (heap_alloc_new w _)]; rfl, h.grown (grownBy_alloc' w _ H)⟩⟩⟩
theorem flat_one (p : List UInt8) : [p].flatten = p := by simp
theorem own_above {w : World} {H : Nat} {v : Value} {n : Nat} {xs : List Value} (h : w.ownsRow (H + 1) 5 1 v n xs) : v.ownBlock = none ∨ v.ownBlock ≠ some H := by
  cases hv : v.ownBlock with
  | none => exact .inl rfl
  | some k => exact .inr (fun e => by have := (h.lt k hv).1; injection e with e; omega)
theorem ish_kept {w w' : World} {H : Nat} {l : List UInt8} {v : Value} {n : Nat} {xs : List Value} (h : IsH w H l) (ho : w.ownsRow (H + 1) 5 1 v n xs) (hg : w.grownBy w' v.ownBlock) : IsH w' H l :=
  IsHM.kept h (hg.block H (IsHM.lt h) (fun e => by have := (ho.lt H e.symm).1; omega))
theorem below_own {H : Nat} {a w w' : World} {v : Value} {n : Nat} {xs : List Value} (hb : Below a.heap.size a w) (ho : w.ownsRow (H + 1) 5 1 v n xs) (hg : w.grownBy w' v.ownBlock) (hH : a.heap.size ≤ H) : Below a.heap.size a w' :=
  hb.trans ⟨hg.os, hg.tape, hg.output, hg.size, fun k hk => hg.block k (Nat.lt_of_lt_of_le hk hb.size) (fun e => by have := (ho.lt k e.symm).1; omega)⟩

theorem own_form {w : World} {base : Nat} {v : Value} {l : List UInt8} (h : w.ownsRow base 5 1 v l.length (bv l)) : ∃ A n c, v = .slice A n c := by
  obtain ⟨A, c, e, _⟩ := own_pb h
  exact ⟨A, _, c, e⟩

set_option maxHeartbeats 2000000 in
set_option maxRecDepth 4000 in
theorem parts_walk (v : Value) (ps : List (List UInt8)) (w : World) (hp : Pbs w v ps) (hk : Kt w) (hf : Ft w) (h1 : 1 < w.heap.size) (hpl : ps.length ≤ 9223372036854775807) (hql : ∀ p ∈ ps, p.length ≤ 9223372036854775807) :
    Calls Tryd.prog 5 #[v] w fun e w' => e = .returned (.bool true) ∧ Below w.heap.size w w' := by
  obtain ⟨A, c, rfl, _, _⟩ := id hp
  have hfew := few_any _ ps w hp hpl hql
  have hnew := new_any w hf
  obtain ⟨fb, hfb⟩ : ∃ fb, fb = fewB ps := ⟨_, rfl⟩
  rw [← hfb] at hfew
  have HFEW := Lib.hid hfew
  have HFB := Lib.hid hfb
  have HNEW := Lib.hid hnew
  have HP := Lib.hid hp
  have HK := Lib.hid hk
  have HF := Lib.hid hf
  have H1 := Lib.hid h1
  clear hfew hfb hnew hp hk hf hql
  go_enter Tryd.func5, Tryd.ntmps5
  go_wp2_with fail
  refine HFEW.out.mono ?_
  rintro e w0 ⟨rfl, rfl⟩
  clear HFEW
  cases fb with
  | false =>
    go_wp2_with fail
    go_ret
    exact ⟨rfl, Below.refl _ _⟩
  | true =>
    have hfl := few_flat HFB.out.symm
    go_wp2_with fail
    refine HNEW.out.mono ?_
    rintro e w1 ⟨rfl, hi1, hb1⟩
    obtain ⟨H, hH⟩ : ∃ H, H = w.heap.size := ⟨_, rfl⟩
    rw [← hH] at hi1 ⊢
    have HH := Lib.hid hH
    clear hH
    have hlt1 := IsHM.lt hi1
    have hb1' : Below w.heap.size w w1 := hb1
    have HI1 := Lib.hid hi1
    have HB1 := Lib.hid hb1'
    clear hi1 hb1 hb1' HNEW HFB
    go_wp2_with fail
    go_loopw [4, 5] (fun u i wr => ∃ k : Nat, k ≤ ps.length ∧ i = .int .i64 k ∧ Hid (IsH wr H (ps.take k).flatten) ∧ Hid (wr.ownsRow (H + 1) 5 1 u (ps.take k).flatten.length (bv (ps.take k).flatten)) ∧ Hid (Below w.heap.size w wr) ∧ H < wr.heap.size) (fun _ i _ => ps.length - (intOf i).toNat)
    case atStart => exact ⟨0, by omega, rfl, by simpa using HI1, by simp only [List.take_zero, List.flatten_nil]; exact World.ownsRow_nil w1 (H + 1) 5 1, HB1, hlt1⟩
    case round =>
      clear HI1 HB1 hlt1
      obtain ⟨k, hkl, rfl, hi, ho, hb, hlt⟩ := hrel
      by_cases hk : k < ps.length
      · obtain ⟨b, o, c2, u, e2, hbl, hcw, hpw⟩ := HP.out.get hk
        injection e2 with e3 _ e4
        subst e3 e4
        have hcell := (hb.out.cell (p := ⟨b, o + k, none⟩) hbl).trans hcw
        have hflk := flat_le ps (k + 1)
        rw [flat_take ps k hk, List.length_append] at hflk
        obtain ⟨Lk, hLk⟩ : ∃ Lk, Lk = (ps.take k).flatten := ⟨_, rfl⟩
        obtain ⟨p, hpk⟩ : ∃ p, p = ps[k] := ⟨_, rfl⟩
        have hLk1 : (ps.take (k + 1)).flatten = Lk ++ p := by rw [flat_take ps k hk, hLk, hpk]
        rw [← hLk] at hi ho hflk
        rw [← hpk] at hpw hflk
        obtain ⟨A3, c3, rfl, _, _⟩ := id hpw
        have hpx : Px wr H _ p := hpw.px hb.out (by rw [HH.out]; exact Nat.le_refl _)
        have hba : Below w.heap.size w (wr.alloc (.cells #[.slice A3 p.length c3] 27)) := hb.out.alloc hb.out.size _
        have hw := write_any H Lk _ [p] (wr.alloc (.cells #[.slice A3 p.length c3] 27)) (IsHM.kept hi.out (Below.heap_alloc _ _ _ hlt)) (ps_one hpx hlt 27) (HK.out.below hba (by have := H1.out; omega)) (by have := H1.out; have := HH.out; omega) (by rw [flat_one]; omega) (by simp)
        rw [flat_one] at hw
        obtain ⟨S, hS⟩ : ∃ S, S = sumP (Lk ++ p) := ⟨_, rfl⟩
        have HW := Lib.hid hw
        have HPW := Lib.hid hpw
        have HL1 := Lib.hid hLk1
        have HCW := Lib.hid hcw
        have HBA := Lib.hid hba
        have HS := Lib.hid hS
        clear hw hpw hLk1 hpx hLk hpk hi hcw hba hS
        go_wp2_with fail
        refine HW.out.mono ?_
        rintro e w2 ⟨rfl, hi2, hg2⟩
        have hb2 := below_grown HBA.out hg2 (by rw [HH.out]; exact Nat.le_refl _)
        have ho2 := (ho.out.alloc (.cells #[.slice A3 p.length c3] 27)).kept hg2 (own_above ho.out)
        have hcell2 := (hb2.cell (p := ⟨b, o + k, none⟩) hbl).trans HCW.out
        have hs2 : H + 1 ≤ w2.heap.size := IsHM.lt hi2
        have HI2 := Lib.hid hi2
        have HO2 := Lib.hid ho2
        have HB2 := Lib.hid hb2
        clear hi2 ho2 hb2 hg2 HW hcell ho HBA
        go_wp2_with (at_builtin; refine wpList_append_bytes rfl (.tmp 25) (.tmp 29) rfl (H + 1) u4 (.slice A3 p.length c3) Lk p rfl rfl HO2.out (HPW.out.below HB2.out) (by omega) hs2 ?_; intro v3 w3 hown3 hg3)
        obtain ⟨A5, n5, c5, rfl⟩ := own_form hown3
        have hb3 := below_own HB2.out HO2.out hg3 (by rw [HH.out]; exact Nat.le_refl _)
        have hi3 := ish_kept HI2.out HO2.out hg3
        have hm := msum_any H (Lk ++ p) w3 hi3 (HK.out.below hb3 (by have := H1.out; omega)) (by have := H1.out; have := HH.out; omega) (by rw [List.length_append]; omega)
        rw [← HS.out] at hm
        refine hm.mono ?_
        rintro e w4 ⟨rfl, hb4⟩
        have hb34 := hb3.trans (hb4.mono hb3.size)
        have hp4 := pbs_one ((own_pb hown3).below hb4) 27
        have hba : Below w.heap.size w (w4.alloc (.cells #[.slice A5 n5 c5] 27)) := hb34.alloc hb34.size _
        have hm2 := sum_any _ [Lk ++ p] _ hp4 (HK.out.below hba (by have := H1.out; omega)) (HF.out.below hba H1.out) (Nat.lt_of_lt_of_le H1.out hba.size) (by rw [flat_one, List.length_append]; omega) (by simp)
        rw [flat_one, ← HS.out] at hm2
        have HM2 := Lib.hid hm2
        have HB4 := Lib.hid hb4
        have HBA := Lib.hid hba
        have HO3 := Lib.hid hown3
        have HI3 := Lib.hid hi3
        clear hm2 hb4 hba hown3 hi3 hm hb3 hb34 hp4 hg3 HO2 HB2 HI2 hcell2
        go_wp2_with fail
        refine HM2.out.mono ?_
        rintro e w5 ⟨rfl, hb5⟩
        have heq := fun W => eq_bytes S (by rw [HS.out, sumP_length]) W
        have hz45 : w3.heap.size ≤ w5.heap.size := Nat.le_trans HB4.out.size (Nat.le_trans (by simp) hb5.size)
        have hkp : Below w3.heap.size w3 w5 := (HB4.out.alloc HB4.out.size _).trans (hb5.mono (Nat.le_trans HB4.out.size (by simp)))
        have HR := Lib.hid (show IsH w5 H (Lk ++ p) ∧ w5.ownsRow (H + 1) 5 1 (.slice A5 n5 c5) (Lk ++ p).length (bv (Lk ++ p)) ∧ Below w.heap.size w w5 ∧ H < w5.heap.size from
          ⟨IsHM.kept HI3.out (hkp.block H (IsHM.lt HI3.out)), own_below HO3.out hkp, HBA.out.trans (hb5.mono HBA.out.size), Nat.lt_of_lt_of_le (IsHM.lt HI3.out) hz45⟩)
        clear hb5 HM2 hz45 hkp
        go_wp2_with fail
        go_roundw
        case rel =>
          refine ⟨k + 1, by omega, by go_num, ?_, ?_, Lib.hid HR.out.2.2.1, HR.out.2.2.2⟩
          · rw [HL1.out]; exact Lib.hid HR.out.1
          · rw [HL1.out]; exact Lib.hid HR.out.2.1
        case measure => simp [intOf] <;> omega
      · have hk2 : k = ps.length := by omega
        rw [hk2, List.take_length] at hi ho
        obtain ⟨A5, n5, c5, rfl⟩ := own_form ho.out
        obtain ⟨S, hS⟩ : ∃ S, S = sumP ps.flatten := ⟨_, rfl⟩
        have hm := msum_any H ps.flatten wr hi.out (HK.out.below hb.out (by have := H1.out; omega)) (by have := H1.out; have := HH.out; omega) (by omega)
        rw [← hS] at hm
        have heq := fun W => eq_bytes S (by rw [hS, sumP_length]) W
        have HM := Lib.hid hm
        have HS := Lib.hid hS
        clear hm hS
        go_wp2_with fail
        refine HM.out.mono ?_
        rintro e w2 ⟨rfl, hb2⟩
        have hba := hb.out.trans (hb2.mono hb.out.size)
        have hi2 := IsHM.kept hi.out (hb2.block H hlt)
        have ho2 := own_below ho.out hb2
        have hm := sum_any _ ps w2 (HP.out.below hba) (HK.out.below hba (by have := H1.out; omega)) (HF.out.below hba H1.out) (Nat.lt_of_lt_of_le H1.out hba.size) (by omega) hpl
        rw [← HS.out] at hm
        have HI2 := Lib.hid hi2
        have HO2 := Lib.hid ho2
        have HM2 := Lib.hid hm
        have HB2 := Lib.hid hba
        have hlt2 : H < w2.heap.size := Nat.lt_of_lt_of_le hlt hb2.size
        clear hi2 ho2 hm hba hb2 hi ho hb HM
        go_wp2_with fail
        refine HM2.out.mono ?_
        rintro e w3 ⟨rfl, hb3⟩
        have hba := HB2.out.trans (hb3.mono HB2.out.size)
        have hi3 := IsHM.kept HI2.out (hb3.block H hlt2)
        have ho3 := own_below HO2.out hb3
        have hm := msum_any H ps.flatten w3 hi3 (HK.out.below hba (by have := H1.out; omega)) (by have := H1.out; have := HH.out; omega) (by omega)
        rw [← HS.out] at hm
        have HO3 := Lib.hid ho3
        have HM3 := Lib.hid hm
        have HB3 := Lib.hid hba
        clear hi3 ho3 hm hba hb3 HI2 HO2 HM2 HB2
        go_wp2_with fail
        refine HM3.out.mono ?_
        rintro e w4 ⟨rfl, hb4⟩
        have hba := HB3.out.trans (hb4.mono HB3.out.size)
        have hp4 := pbs_one ((own_pb HO3.out).below hb4) 27
        have hbc : Below w.heap.size w (w4.alloc (.cells #[.slice A5 n5 c5] 27)) := hba.alloc hba.size _
        have hm := sum_any _ [ps.flatten] _ hp4 (HK.out.below hbc (by have := H1.out; omega)) (HF.out.below hbc H1.out) (Nat.lt_of_lt_of_le H1.out hbc.size) (by rw [flat_one]; omega) (by simp)
        rw [flat_one, ← HS.out] at hm
        have HM4 := Lib.hid hm
        have HB4 := Lib.hid hbc
        clear hm hbc hba hb4 hp4 HO3 HM3 HB3
        go_wp2_with fail
        refine HM4.out.mono ?_
        rintro e w5 ⟨rfl, hb5⟩
        have hba := HB4.out.trans (hb5.mono HB4.out.size)
        have hm := awake_any w5 (HK.out.below hba (by have := H1.out; omega)) (HF.out.below hba H1.out) (Nat.lt_of_lt_of_le H1.out hba.size)
        have HM5 := Lib.hid hm
        have HB5 := Lib.hid hba
        clear hm hba hb5 HM4 HB4
        go_wp2_with fail
        refine HM5.out.mono ?_
        rintro e w6 ⟨rfl, hb6⟩
        have HB6 := Lib.hid (HB5.out.trans (hb6.mono HB5.out.size))
        clear hb6 HM5 HB5 heq
        go_wp2_with fail
        go_ret
        exact ⟨rfl, HB6.out⟩
end Go.Proofs.YtbnmblhpoaaegaaDoor
