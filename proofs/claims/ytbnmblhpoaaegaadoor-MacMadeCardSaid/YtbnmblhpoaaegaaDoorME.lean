/- A tag is two sums, the one over the other one: MacMade returns true for every input. -/
import Derived.Test.YtbnmblhpoaaegaaDoorMB
namespace Go.Proofs.YtbnmblhpoaaegaaDoor
open Go.RowKit

theorem cpy_at (bl : List UInt8) (k : Nat) (hb : bl.length = 64) (hk : k < 64) : (cpy bl k).getD k 0 = 0 := by
  have hl : (bl.take k).length = k := by simp; omega
  unfold cpy
  simp only [List.getD]
  rw [List.getElem?_append_right (by omega), hl, Nat.sub_self, List.getElem?_replicate]
  split <;> rfl
theorem cpy_set (bl : List UInt8) (k : Nat) (hb : bl.length = 64) (hk : k < 64) : (cpy bl k).set k 0 = cpy bl k := by
  have h := cpy_at bl k hb hk
  have hl := cpy_length bl k hb (Nat.le_of_lt hk)
  apply List.ext_getElem (by simp)
  intro j h1 h2
  rw [List.getElem_set]
  split
  · rename_i e
    subst e
    simp only [List.getD, List.getElem?_eq_getElem h2] at h
    exact h.symm
  · rfl
theorem cpy_next2 (c : UInt8) (bl : List UInt8) (k : Nat) (hb : bl.length = 64) (hk : k < 64) (y : UInt8) : ((cpy (mixP c bl) k).set k y).set k (bl.getD k 0 ^^^ c) = cpy (mixP c bl) (k + 1) := by
  rw [cpy_next _ _ (by rw [mixP_length]; exact hb) hk, List.set_set]
  congr 1
  simp [mixP, List.getD, List.getElem?_eq_getElem (show k < bl.length by omega)]
theorem two_set {w : World} {Ri Ro k : Nat} {l1 l2 : List UInt8} {a b : UInt8} (hi : w.heap[Ri]? = some (.cells (bv l1).toArray 24 (0, 0))) (ho : w.heap[Ro]? = some (.cells (bv l2).toArray 24 (0, 0))) (hne : Ri ≠ Ro) :
    ((w.setCell ⟨Ri, k, none⟩ (.int .u8 (a.toNat : Int))).setCell ⟨Ro, k, none⟩ (.int .u8 (b.toNat : Int))).heap[Ri]? = some (.cells (bv (l1.set k a)).toArray 24 (0, 0)) ∧
    ((w.setCell ⟨Ri, k, none⟩ (.int .u8 (a.toNat : Int))).setCell ⟨Ro, k, none⟩ (.int .u8 (b.toNat : Int))).heap[Ro]? = some (.cells (bv (l2.set k b)).toArray 24 (0, 0)) :=
  ⟨(heap_setCell_other _ ⟨Ro, k, none⟩ Ri _ hne).trans (bytes_set hi), bytes_set ((heap_setCell_other _ ⟨Ri, k, none⟩ Ro _ hne.symm).trans ho)⟩
theorem set_get (l : List UInt8) (k : Nat) (y : UInt8) (hk : k < l.length) : (l.set k y).getD k 0 = y := by
  simp [List.getD, hk]

set_option linter.unusedSimpArgs false in
set_option maxHeartbeats 4000000 in
set_option maxRecDepth 4000 in
theorem mmade_walk (v u : Value) (key b : List UInt8) (w : World) (hv : Pb w v key) (hp : Pb w u b) (hk : Kt w) (hf : Ft w) (h1 : 1 < w.heap.size) (hkl : key.length ≤ 9223372036854775807) (hbl : b.length ≤ 9223372036854775807) :
    Calls Tryd.prog 10 #[v, u] w fun e w' => e = .returned (.bool true) ∧ Below w.heap.size w w' := by
  obtain ⟨A, c, rfl, _, _⟩ := id hv
  obtain ⟨A2, c2, rfl, _, _⟩ := id hp
  obtain ⟨n, hn⟩ : ∃ n, n = key.length := ⟨_, rfl⟩
  obtain ⟨m, hm⟩ : ∃ m, m = b.length := ⟨_, rfl⟩
  rw [← hn] at hv hkl ⊢
  rw [← hm] at hp hbl ⊢
  have HN := Lib.hid hn
  have HM := Lib.hid hm
  have HV := Lib.hid hv
  have HP := Lib.hid hp
  have HK := Lib.hid hk
  have HF := Lib.hid hf
  have H1 := Lib.hid h1
  clear hv hp hk hf hn hm h1
  go_enter Tryd.func10, Tryd.ntmps10
  by_cases hbig : 64 < n
  · have t : decide ((n : Int) > 64) = true := by rw [decide_eq_true_iff]; omega
    go_wp2_with fail
    go_ret
    exact ⟨rfl, Below.refl _ _⟩
  have t : decide ((n : Int) > 64) = false := by rw [decide_eq_false_iff_not]; omega
  by_cases hbig2 : 300 < m
  · have t2 : decide ((m : Int) > 300) = true := by rw [decide_eq_true_iff]; omega
    go_wp2_with fail
    go_ret
    exact ⟨rfl, Below.refl _ _⟩
  have t2 : decide ((m : Int) > 300) = false := by rw [decide_eq_false_iff_not]; omega
  have HMB := Lib.hid (show b.length ≤ 300 by rw [← HM.out]; omega)
  have HNB := Lib.hid (show key.length ≤ 64 by rw [← HN.out]; omega)
  obtain ⟨bl, hblk⟩ : ∃ bl, bl = blockP key := ⟨_, rfl⟩
  have h64 : bl.length = 64 := by rw [hblk, blockP_length]
  have hco : coreP key = key := by unfold coreP; rw [if_neg (by have := HNB.out; omega)]
  have hg1 : ∀ k, n ≤ k → bl.getD k 0 = 0 := by
    intro k hk
    rw [hblk]
    exact block_get key k (by rw [hco, ← HN.out]; exact hk)
  have hg2 : ∀ k, k < n → bl.getD k 0 = key.getD k 0 := by
    intro k hk
    rw [hblk, block_get' key k (by rw [hco, ← HN.out]; exact hk), hco]
  have HBL := Lib.hid hblk
  have H64 := Lib.hid h64
  have HG1 := Lib.hid hg1
  have HG2 := Lib.hid hg2
  clear hblk h64 hco hg1 hg2 hbig hbig2
  go_upto_region 4 with (fail)
  rw [zb64_lit]
  obtain ⟨w1, hw1⟩ : ∃ w1, w1 = (w.alloc (.cells zb64 24)).alloc (.cells zb64 24) := ⟨_, rfl⟩
  rw [← hw1]
  obtain ⟨Ri, hRi⟩ : ∃ R, R = w.heap.size := ⟨_, rfl⟩
  obtain ⟨Ro, hRo⟩ : ∃ R, R = w.heap.size + 1 := ⟨_, rfl⟩
  have hri : w1.heap[Ri]? = some (.cells (bv (cpy (mixP 54 bl) 0)).toArray 24 (0, 0)) := by
    rw [hw1, hRi, show cpy (mixP 54 bl) 0 = List.replicate 64 0 by simp [cpy], ← zb64_eq]
    exact (Below.heap_alloc _ _ _ (by simp)).trans (heap_alloc_new w _)
  have hro : w1.heap[Ro]? = some (.cells (bv (cpy (mixP 92 bl) 0)).toArray 24 (0, 0)) := by
    rw [hw1, hRo, show cpy (mixP 92 bl) 0 = List.replicate 64 0 by simp [cpy], ← zb64_eq]
    have := heap_alloc_new (w.alloc (.cells zb64 24)) (.cells zb64 24)
    rw [size_alloc1] at this
    exact this
  have hb1 : Below w.heap.size w w1 := by
    rw [hw1]
    exact ((Below.refl _ _).alloc (Nat.le_refl _) _).alloc (by simp) _
  try rw [← hRo]
  rw [← hRi]
  have HI := Lib.hid (show w1.heap[Ri]? = some (.cells (bv (cpy (mixP 54 bl) 0)).toArray 24 (0, 0)) ∧ w1.heap[Ro]? = some (.cells (bv (cpy (mixP 92 bl) 0)).toArray 24 (0, 0)) ∧ Below w.heap.size w w1 from ⟨hri, hro, hb1⟩)
  have HRI := Lib.hid hRi
  have HRO := Lib.hid hRo
  have hne : Ri ≠ Ro := by omega
  have HNE := Lib.hid hne
  have hwi : w.heap.size ≤ Ri := by omega
  have hwo : w.heap.size ≤ Ro := by omega
  have HWI := Lib.hid hwi
  have HWO := Lib.hid hwo
  clear hri hro hb1 hw1 hRi hRo hne hwi hwo
  go_wp2_with fail
  go_loopw [7] (fun i wr => ∃ k : Nat, k ≤ 64 ∧ i = .int .i64 k ∧ Hid (wr.heap[Ri]? = some (.cells (bv (cpy (mixP 54 bl) k)).toArray 24 (0, 0)) ∧ wr.heap[Ro]? = some (.cells (bv (cpy (mixP 92 bl) k)).toArray 24 (0, 0)) ∧ Below w.heap.size w wr)) (fun i _ => 64 - (intOf i).toNat)
  case atStart => exact ⟨0, by omega, rfl, HI⟩
  case round =>
    clear HI
    obtain ⟨k, hk, rfl, hi⟩ := hrel
    by_cases hlt : k < 64
    · have hl1 : (mixP 54 bl).length = 64 := by rw [mixP_length]; exact H64.out
      have hl2 : (mixP 92 bl).length = 64 := by rw [mixP_length]; exact H64.out
      have HL1 := Lib.hid hl1
      have HL2 := Lib.hid hl2
      clear hl1 hl2
      go_upto_if 24 with (fail)
      go_cut [7] (fun i wx => i = .int .i64 k ∧ ∃ y : UInt8, Hid (y = bl.getD k 0) ∧ Hid (wx.heap[Ri]? = some (.cells (bv ((cpy (mixP 54 bl) k).set k y)).toArray 24 (0, 0)) ∧ wx.heap[Ro]? = some (.cells (bv ((cpy (mixP 92 bl) k).set k y)).toArray 24 (0, 0)) ∧ Below w.heap.size w wx))
      case first =>
        by_cases hkn : k < n
        · obtain ⟨bb, o, hA, hb, hcl⟩ : ∃ b o, A = some ⟨b, o, none⟩ ∧ b < w.heap.size ∧ ∀ j u, (bv key)[j]? = some u → w.cell? ⟨b, o + j, none⟩ = some u := by
            obtain ⟨A', c', e, _, hr⟩ := HV.out
            injection e with e1 _ _
            subst e1
            obtain ⟨b, o, e3, e4, e5⟩ := hr (by rw [← HN.out]; omega)
            exact ⟨b, o, e3, e4, e5⟩
          subst hA
          obtain ⟨y, hy⟩ : ∃ y : UInt8, y = key.getD k 0 := ⟨_, rfl⟩
          have hkk : k < key.length := by rw [← HN.out]; exact hkn
          have hcell : wr.cell? ⟨bb, o + k, none⟩ = some (.int .u8 (y.toNat : Int)) := (hi.out.2.2.cell (p := ⟨bb, o + k, none⟩) hb).trans (hcl k _ (by rw [hy]; simp [bv, List.getD, hkk]))
          have hfi : wr.frozen? ⟨Ri, k, none⟩ = false := frozen_of_row wr _ _ _ _ hi.out.1
          have hfo : wr.frozen? ⟨Ro, k, none⟩ = false := frozen_of_row wr _ _ _ _ hi.out.2.1
          have hbi : bb ≠ Ri := by have := HWI.out; omega
          have hbo : bb ≠ Ro := by have := HWO.out; omega
          have hio := HNE.out
          have hoi := HNE.out.symm
          have hci := bytes_cell hi.out.1 (k := k) (by rw [cpy_length _ _ HL1.out hk]; exact hlt)
          have hco := bytes_cell hi.out.2.1 (k := k) (by rw [cpy_length _ _ HL2.out hk]; exact hlt)
          rw [cpy_at _ _ HL1.out hlt] at hci
          rw [cpy_at _ _ HL2.out hlt] at hco
          have HY := Lib.hid (show y = bl.getD k 0 by rw [hy, HG2.out k hkn])
          clear hy hcl hkk
          go_upto_region 8 with fail
          go_region
          go_wp2_with fail
          go_meet
          refine ⟨rfl, y, HY, ?_⟩
          have h2 := two_set (k := k) (a := y) (b := y) hi.out.1 hi.out.2.1 HNE.out
          exact Lib.hid ⟨h2.1, h2.2, ((hi.out.2.2.setCell (p := ⟨Ri, k, none⟩) HWI.out _).setCell (p := ⟨Ro, k, none⟩) HWO.out _).drew⟩
        · go_wp2_with fail
          go_meet
          refine ⟨rfl, 0, Lib.hid (HG1.out k (by omega)).symm, ?_⟩
          rw [cpy_set _ _ HL1.out hlt, cpy_set _ _ HL2.out hlt]
          exact hi
      case rest =>
        obtain ⟨rfl, y, hy, hr⟩ := hcut
        obtain ⟨z1, hz1⟩ : ∃ z, z = y ^^^ 54 := ⟨_, rfl⟩
        obtain ⟨z2, hz2⟩ : ∃ z, z = y ^^^ 92 := ⟨_, rfl⟩
        have e1 : bits .xor .u8 (y.toNat : Int) 54 = (z1.toNat : Int) := by rw [hz1]; exact xor_bytes y 54
        have e2 : bits .xor .u8 (y.toNat : Int) 92 = (z2.toNat : Int) := by rw [hz2]; exact xor_bytes y 92
        have hfi : wc.frozen? ⟨Ri, k, none⟩ = false := frozen_of_row wc _ _ _ _ hr.out.1
        have hfo : wc.frozen? ⟨Ro, k, none⟩ = false := frozen_of_row wc _ _ _ _ hr.out.2.1
        have hio := HNE.out
        have hoi := HNE.out.symm
        have hci := bytes_cell hr.out.1 (k := k) (by rw [List.length_set, cpy_length _ _ HL1.out hk]; exact hlt)
        have hco := bytes_cell hr.out.2.1 (k := k) (by rw [List.length_set, cpy_length _ _ HL2.out hk]; exact hlt)
        rw [set_get _ _ _ (by rw [cpy_length _ _ HL1.out hk]; exact hlt)] at hci
        rw [set_get _ _ _ (by rw [cpy_length _ _ HL2.out hk]; exact hlt)] at hco
        have HZ1 := Lib.hid (show z1 = bl.getD k 0 ^^^ 54 by rw [hz1, hy.out])
        have HZ2 := Lib.hid (show z2 = bl.getD k 0 ^^^ 92 by rw [hz2, hy.out])
        clear hz1 hz2
        go_wp2_with fail
        go_roundw
        case rel =>
          have h2 := two_set (k := k) (a := z1) (b := z2) hr.out.1 hr.out.2.1 HNE.out
          rw [HZ1.out, HZ2.out, cpy_next2 54 bl k H64.out hlt, cpy_next2 92 bl k H64.out hlt, ← HZ1.out, ← HZ2.out] at h2
          exact ⟨k + 1, by omega, by go_num, Lib.hid ⟨h2.1, h2.2, (hr.out.2.2.setCell (p := ⟨Ri, k, none⟩) HWI.out _).setCell (p := ⟨Ro, k, none⟩) HWO.out _⟩⟩
        case measure => simp [intOf] <;> omega
    · obtain rfl : k = 64 := by omega
      obtain ⟨M1, hM1⟩ : ∃ M, M = mixP 54 bl := ⟨_, rfl⟩
      obtain ⟨M2, hM2⟩ : ∃ M, M = mixP 92 bl := ⟨_, rfl⟩
      have hc1 : cpy M1 64 = M1 := by
        rw [hM1]
        unfold cpy
        rw [List.take_of_length_le (by rw [mixP_length, H64.out]; omega)]
        simp
      have hc2 : cpy M2 64 = M2 := by
        rw [hM2]
        unfold cpy
        rw [List.take_of_length_le (by rw [mixP_length, H64.out]; omega)]
        simp
      have hl1 : M1.length = 64 := by rw [hM1, mixP_length]; exact H64.out
      have hl2 : M2.length = 64 := by rw [hM2, mixP_length]; exact H64.out
      rw [← hM1, ← hM2, hc1, hc2] at hi
      have hra : ∀ (W : World), Below wr.heap.size wr W → Pb W (.slice (some ⟨Ri, 0, none⟩) 64 64) M1 ∧ Pb W (.slice (some ⟨Ro, 0, none⟩) 64 64) M2 := fun W hb => by
        have pbw : ∀ (R : Nat) (M : List UInt8), M.length = 64 → wr.heap[R]? = some (.cells (bv M).toArray 24 (0, 0)) → Pb wr (.slice (some ⟨R, 0, none⟩) 64 64) M := fun R M hM hr =>
          ⟨_, 64, by rw [hM], by rw [hM]; omega, fun _ => ⟨R, 0, rfl, lt_of_block' hr, fun j u hu => by rw [cell_of_row _ _ (0 + j) _ _ _ hr, Nat.zero_add, List.getElem?_toArray, hu]⟩⟩
        exact ⟨(pbw Ri M1 hl1 hi.out.1).below hb, (pbw Ro M2 hl2 hi.out.2.1).below hb⟩
      have hbw := hi.out.2.2
      have HRA := Lib.hid hra
      have HBW := Lib.hid hbw
      have HL1 := Lib.hid hl1
      have HL2 := Lib.hid hl2
      have HM1 := Lib.hid hM1
      have HM2 := Lib.hid hM2
      have hba : Below w.heap.size w (wr.alloc (.cells #[.slice (some ⟨Ri, 0, none⟩) 64 64, .slice A2 m c2] 27)) := hbw.alloc hbw.size _
      have hs := sum_any _ [M1, b] _ (pbs_two (hra wr (Below.refl _ _)).1 (HP.out.below hbw) 27) (HK.out.below hba (by have := H1.out; omega)) (HF.out.below hba H1.out) (Nat.lt_of_lt_of_le H1.out hba.size) (by have := HMB.out; simp [hl1]; omega) (by simp)
      obtain ⟨S, hS⟩ : ∃ S, S = sumP (M1 ++ b) := ⟨_, rfl⟩
      have hSl : S.length = 32 := by rw [hS, sumP_length]
      rw [show [M1, b].flatten = M1 ++ b by simp, ← hS] at hs
      have I30 := Lib.hid (show (Tryd.prog.info? 30).map (·.size) = some ((bv S).toArray.size) by
        rw [Tryd.size30]
        simp [bv, hSl])
      have S30 := Lib.hid (show z32.size = (bv S).toArray.size by
        simp only [bv, List.size_toArray, List.length_map, hSl]
        rfl)
      have HS := Lib.hid hS
      have HSL := Lib.hid hSl
      have HSS := Lib.hid hs
      have HBA := Lib.hid hba
      have HBR := Lib.hid (show Below wr.heap.size wr (wr.alloc (.cells #[.slice (some ⟨Ri, 0, none⟩) 64 64, .slice A2 m c2] 27)) from (Below.refl _ _).alloc (Nat.le_refl _) _)
      clear hra hbw hl1 hl2 hM1 hM2 hba hs hS hSl hc1 hc2 hi
      go_wp2_with fail
      refine HSS.out.mono ?_
      rintro e w3 ⟨rfl, hb3⟩
      have HB3 := Lib.hid (HBA.out.trans (hb3.mono HBA.out.size))
      have HC3 := Lib.hid (HBR.out.trans (hb3.mono HBR.out.size))
      clear hb3 HSS HBA HBR
      go_upto_region 12 with (refine wpList_store_row rfl 30 (.tmp 8) (.tmp 50) rfl w3.heap.size (bv S).toArray rfl rfl 30 z32 (heap_alloc_new w3 _) I30.out S30.out (bv_one _) ?_; rw [World.setRow_alloc_new])
      obtain ⟨w4, hw4⟩ : ∃ w4, w4 = w3.alloc (.cells (bv S).toArray 30) := ⟨_, rfl⟩
      obtain ⟨R8, hR8⟩ : ∃ R, R = w3.heap.size := ⟨_, rfl⟩
      rw [← hw4, ← hR8]
      have hs4 : w4.heap[R8]? = some (.cells (bv S).toArray 30 (0, 0)) := by rw [hw4, hR8]; exact heap_alloc_new w3 _
      have hb4 : Below w.heap.size w w4 := by rw [hw4]; exact HB3.out.alloc HB3.out.size _
      have hc4 : Below wr.heap.size wr w4 := by rw [hw4]; exact HC3.out.alloc HC3.out.size _
      have hp4 : Pb w4 (.slice (some ⟨R8, 0, none⟩) 32 32) S := by
        refine ⟨_, 32, by rw [HSL.out], by rw [HSL.out]; omega, fun _ => ⟨R8, 0, rfl, lt_of_block' hs4, fun j u hu => ?_⟩⟩
        rw [cell_of_row _ _ (0 + j) _ _ _ hs4, Nat.zero_add, List.getElem?_toArray, hu]
      obtain ⟨W0, hW0⟩ : ∃ W0, W0 = w4.drew := ⟨_, rfl⟩
      have hb0 : Below w.heap.size w W0 := by rw [hW0]; exact hb4.drew
      have hp0 : Pb W0 (.slice (some ⟨R8, 0, none⟩) 32 32) S := by rw [hW0]; exact hp4.below (Below.refl _ _).drew
      have hq0 : Pb W0 (.slice (some ⟨Ro, 0, none⟩) 64 64) M2 := by rw [hW0]; exact (HRA.out _ hc4.drew).2
      obtain ⟨T, hT⟩ : ∃ T, T = tagP key b := ⟨_, rfl⟩
      have hT2 : sumP (M2 ++ S) = T := by rw [hT, HM2.out, HS.out, HM1.out, HBL.out]; rfl
      have heq := fun W => eq_bytes T (by rw [hT, tagP_length]) W
      have HB0 := Lib.hid hb0
      have HP0 := Lib.hid hp0
      have HQ0 := Lib.hid hq0
      have HT := Lib.hid hT
      have HT2 := Lib.hid hT2
      clear hs4 hb4 hc4 hp4 hw4 hR8 hb0 hp0 hq0 hT hT2 HB3 HC3
      refine wp_region_any (by kernel_rfl) ?_
      change wpAny _ _ _ _ _ _ _ (World.drew _)
      rw [← hW0]
      clear hW0
      have HD0 : Hid (Below W0.heap.size W0 W0) := Lib.hid (Below.refl _ _)
      refine wpAny_take (i := 0) (oi := ?oi0) (v := ?v0) ?hi0 ?hs0 ?hf0 ?hr0 ?hQ0 ?hy0 ?h0
      case hi0 => exact (by simp only [List.getElem?_toArray, List.getElem?_cons_zero]; rfl)
      case hs0 => kernel_rfl
      case hf0 => kernel_rfl
      case hr0 => kernel_rfl
      case hQ0 => exact fun _ _ _ h => h
      case hy0 =>
        refine Or.inl ⟨rfl, ?_⟩
        intro W
        go_simp
        try with_reducible rfl
      try simp only [Act.put, List.setIfInBounds_toArray, List.set_cons_zero, List.set_cons_succ]
      refine wpAny_take (i := 1) (oi := ?oi1) (v := ?v1) ?hi1 ?hs1 ?hf1 ?hr1 ?hQ1 ?hy1 ?h1
      case hi1 => exact (by simp only [List.getElem?_toArray, List.getElem?_cons_succ, List.getElem?_cons_zero]; rfl)
      case hs1 => kernel_rfl
      case hf1 => kernel_rfl
      case hr1 => kernel_rfl
      case hQ1 => exact fun _ _ _ h => h
      case hy1 =>
        refine Or.inl ⟨rfl, ?_⟩
        intro W
        go_simp
        try with_reducible rfl
      try simp only [Act.put, List.setIfInBounds_toArray, List.set_cons_zero, List.set_cons_succ]
      refine wpAny_take (i := 4) (oi := ?oi4) (v := ?v4) ?hi4 ?hs4 ?hf4 ?hr4 ?hQ4 ?hy4 ?h4
      case hi4 => exact (by simp only [List.getElem?_toArray, List.getElem?_cons_succ, List.getElem?_cons_zero]; rfl)
      case hs4 => kernel_rfl
      case hf4 => kernel_rfl
      case hr4 => kernel_rfl
      case hQ4 => exact fun _ _ _ h => h
      case hy4 =>
        refine Or.inl ⟨rfl, ?_⟩
        intro W
        go_simp
        try with_reducible rfl
      try simp only [Act.put, List.setIfInBounds_toArray, List.set_cons_zero, List.set_cons_succ]
      refine wpAny_take (i := 5) (oi := ?oi5) (v := ?v5) ?hi5 ?hs5 ?hf5 ?hr5 ?hQ5 ?hy5 ?h5
      case hi5 => exact (by simp only [List.getElem?_toArray, List.getElem?_cons_succ, List.getElem?_cons_zero]; rfl)
      case hs5 => kernel_rfl
      case hf5 => kernel_rfl
      case hr5 => kernel_rfl
      case hQ5 => exact fun _ _ _ h => h
      case hy5 =>
        refine Or.inl ⟨rfl, ?_⟩
        intro W
        go_simp
        try with_reducible rfl
      try simp only [Act.put, List.setIfInBounds_toArray, List.set_cons_zero, List.set_cons_succ]
      refine wpAny_ready (rs := [2, 6]) (by kernel_rfl) (by simp) ?_
      refine AllReady.cons (o := _) rfl (fun K hK => ?_) (AllReady.cons (o := _) rfl (fun K hK => ?_) AllReady.nil)
      · go_simp
        have hr1 := pbs_one (HP.out.below HB0.out) 27
        have hp1 := Lib.hid hr1
        clear hr1
        have hb1 := Lib.hid (HB0.out.alloc HB0.out.size (.cells #[.slice A2 m c2] 27))
        have hd1 := Lib.hid (HD0.out.alloc HD0.out.size (.cells #[.slice A2 m c2] 27))
        refine hK _ _ ?_
        clear hK K
        try simp only [Act.put, List.setIfInBounds_toArray, List.set_cons_zero, List.set_cons_succ]
        refine wpAny_ready (rs := [3, 6]) (by kernel_rfl) (by simp) ?_
        refine AllReady.cons (o := _) rfl (fun K hK => ?_) (AllReady.cons (o := _) rfl (fun K hK => ?_) AllReady.nil)
        · go_simp
          have hm2 := mtag_any _ _ key [b] _ (HV.out.below hb1.out) hp1.out (HK.out.below hb1.out (by have := H1.out; omega)) (HF.out.below hb1.out H1.out) (Nat.lt_of_lt_of_le H1.out hb1.out.size) (by have := HNB.out; omega) (by rw [flat_one]; have := HMB.out; omega) (by simp)
          rw [flat_one, ← HT.out] at hm2
          refine hm2.mono ?_
          clear hm2
          intro e V2 hp
          obtain ⟨rfl, hc2⟩ := hp
          have hb2 := Lib.hid (hb1.out.trans (hc2.mono hb1.out.size))
          have hd2 := Lib.hid (hd1.out.trans (hc2.mono hd1.out.size))
          clear hc2
          refine hK _ _ ?_
          clear hK K
          try simp only [Act.put, List.setIfInBounds_toArray, List.set_cons_zero, List.set_cons_succ]
          refine wpAny_ready (rs := [6]) (by kernel_rfl) (by simp) ?_
          refine AllReady.cons (o := _) rfl (fun K hK => ?_) AllReady.nil
          go_simp
          have hr3 := pbs_two (HQ0.out.below hd2.out) (HP0.out.below hd2.out) 27
          have hp3 := Lib.hid hr3
          clear hr3
          have ho3 := Lib.hid (hp1.out.below ((Below.refl _ _).alloc (Nat.le_refl _) (.cells #[.slice (some ⟨Ro, 0, none⟩) 64 64, .slice (some ⟨R8, 0, none⟩) 32 32] 27)))
          have hb3 := Lib.hid (hb2.out.alloc hb2.out.size (.cells #[.slice (some ⟨Ro, 0, none⟩) 64 64, .slice (some ⟨R8, 0, none⟩) 32 32] 27))
          have hd3 := Lib.hid (hd2.out.alloc hd2.out.size (.cells #[.slice (some ⟨Ro, 0, none⟩) 64 64, .slice (some ⟨R8, 0, none⟩) 32 32] 27))
          refine hK _ _ ?_
          clear hK K
          try simp only [Act.put, List.setIfInBounds_toArray, List.set_cons_zero, List.set_cons_succ]
          refine wpAny_ready (rs := [7]) (by kernel_rfl) (by simp) ?_
          refine AllReady.cons (o := _) rfl (fun K hK => ?_) AllReady.nil
          go_simp
          have hm4 := sum_any _ [M2, S] _ hp3.out (HK.out.below hb3.out (by have := H1.out; omega)) (HF.out.below hb3.out H1.out) (Nat.lt_of_lt_of_le H1.out hb3.out.size) (by simp [HL2.out, HSL.out]) (by simp)
          rw [show [M2, S].flatten = M2 ++ S by simp, HT2.out] at hm4
          refine hm4.mono ?_
          clear hm4
          intro e V4 hp
          obtain ⟨rfl, hc4⟩ := hp
          have hb4 := Lib.hid (hb3.out.trans (hc4.mono hb3.out.size))
          have hd4 := Lib.hid (hd3.out.trans (hc4.mono hd3.out.size))
          clear hc4
          refine hK _ _ ?_
          clear hK K
          try simp only [Act.put, List.setIfInBounds_toArray, List.set_cons_zero, List.set_cons_succ]
          refine wpAny_take (i := 8) (oi := ?oi8a) (v := ?v8a) ?hi8a ?hs8a ?hf8a ?hr8a ?hQ8a ?hy8a ?h8a
          case hi8a => exact (by simp only [List.getElem?_toArray, List.getElem?_cons_succ, List.getElem?_cons_zero]; rfl)
          case hs8a => kernel_rfl
          case hf8a => kernel_rfl
          case hr8a => kernel_rfl
          case hQ8a => exact fun _ _ _ h => h
          case hy8a =>
            refine Or.inl ⟨rfl, ?_⟩
            intro W
            go_simp
            try with_reducible rfl
          try simp only [Act.put, List.setIfInBounds_toArray, List.set_cons_zero, List.set_cons_succ]
          refine wpAny_take (i := 9) (oi := ?oi9a) (v := ?v9a) ?hi9a ?hs9a ?hf9a ?hr9a ?hQ9a ?hy9a ?h9a
          case hi9a => exact (by simp only [List.getElem?_toArray, List.getElem?_cons_succ, List.getElem?_cons_zero]; rfl)
          case hs9a => kernel_rfl
          case hf9a => kernel_rfl
          case hr9a => kernel_rfl
          case hQ9a => exact fun _ _ _ h => h
          case hy9a =>
            refine Or.inl ⟨rfl, ?_⟩
            intro W
            go_simp
            try with_reducible rfl
          try simp only [Act.put, List.setIfInBounds_toArray, List.set_cons_zero, List.set_cons_succ]
          refine wpAny_ready (rs := [10]) (by kernel_rfl) (by simp) ?_
          refine AllReady.cons (o := _) rfl (fun K hK => ?_) AllReady.nil
          go_simp
          have hm5 := mawake_any _ (HK.out.below hb4.out (by have := H1.out; omega)) (HF.out.below hb4.out H1.out) (Nat.lt_of_lt_of_le H1.out hb4.out.size)
          refine hm5.mono ?_
          clear hm5
          intro e V5 hp
          obtain ⟨rfl, hc5⟩ := hp
          have hb5 := Lib.hid (hb4.out.trans (hc5.mono hb4.out.size))
          have hd5 := Lib.hid (hd4.out.trans (hc5.mono hd4.out.size))
          clear hc5
          refine hK _ _ ?_
          clear hK K
          try simp only [Act.put, List.setIfInBounds_toArray, List.set_cons_zero, List.set_cons_succ]
          refine wpAny_take (i := 11) (oi := ?oi11a) (v := ?v11a) ?hi11a ?hs11a ?hf11a ?hr11a ?hQ11a ?hy11a ?h11a
          case hi11a => exact (by simp only [List.getElem?_toArray, List.getElem?_cons_succ, List.getElem?_cons_zero]; rfl)
          case hs11a => kernel_rfl
          case hf11a => kernel_rfl
          case hr11a => kernel_rfl
          case hQ11a => exact fun _ _ _ h => h
          case hy11a =>
            refine Or.inl ⟨rfl, ?_⟩
            intro W
            go_simp
            try with_reducible rfl
          try simp only [Act.put, List.setIfInBounds_toArray, List.set_cons_zero, List.set_cons_succ]
          refine wpAny_take (i := 12) (oi := ?oi12a) (v := ?v12a) ?hi12a ?hs12a ?hf12a ?hr12a ?hQ12a ?hy12a ?h12a
          case hi12a => exact (by simp only [List.getElem?_toArray, List.getElem?_cons_succ, List.getElem?_cons_zero]; rfl)
          case hs12a => kernel_rfl
          case hf12a => kernel_rfl
          case hr12a => kernel_rfl
          case hQ12a => exact fun _ _ _ h => h
          case hy12a =>
            refine Or.inl ⟨rfl, ?_⟩
            intro W
            go_simp
            try with_reducible rfl
          try simp only [Act.put, List.setIfInBounds_toArray, List.set_cons_zero, List.set_cons_succ]
          refine wpAny_done (by kernel_rfl) ?_ _
          go_wp2_with fail
          go_ret
          exact ⟨rfl, hb5.out⟩
        · go_simp
          have hr2 := pbs_two (HQ0.out.below hd1.out) (HP0.out.below hd1.out) 27
          rw [size_alloc1] at hr2
          have hp2 := Lib.hid hr2
          clear hr2
          have ho2 := Lib.hid (hp1.out.below ((Below.refl _ _).alloc (Nat.le_refl _) (.cells #[.slice (some ⟨Ro, 0, none⟩) 64 64, .slice (some ⟨R8, 0, none⟩) 32 32] 27)))
          have hb2 := Lib.hid (hb1.out.alloc hb1.out.size (.cells #[.slice (some ⟨Ro, 0, none⟩) 64 64, .slice (some ⟨R8, 0, none⟩) 32 32] 27))
          have hd2 := Lib.hid (hd1.out.alloc hd1.out.size (.cells #[.slice (some ⟨Ro, 0, none⟩) 64 64, .slice (some ⟨R8, 0, none⟩) 32 32] 27))
          refine hK _ _ ?_
          clear hK K
          try simp only [Act.put, List.setIfInBounds_toArray, List.set_cons_zero, List.set_cons_succ]
          refine wpAny_ready (rs := [3]) (by kernel_rfl) (by simp) ?_
          refine AllReady.cons (o := _) rfl (fun K hK => ?_) AllReady.nil
          go_simp
          have hm3 := mtag_any _ _ key [b] _ (HV.out.below hb2.out) ho2.out (HK.out.below hb2.out (by have := H1.out; omega)) (HF.out.below hb2.out H1.out) (Nat.lt_of_lt_of_le H1.out hb2.out.size) (by have := HNB.out; omega) (by rw [flat_one]; have := HMB.out; omega) (by simp)
          rw [flat_one, ← HT.out] at hm3
          refine hm3.mono ?_
          clear hm3
          intro e V3 hp
          obtain ⟨rfl, hc3⟩ := hp
          have hb3 := Lib.hid (hb2.out.trans (hc3.mono hb2.out.size))
          have hd3 := Lib.hid (hd2.out.trans (hc3.mono hd2.out.size))
          have ho3 := Lib.hid (hp2.out.below hc3)
          clear hc3
          refine hK _ _ ?_
          clear hK K
          try simp only [Act.put, List.setIfInBounds_toArray, List.set_cons_zero, List.set_cons_succ]
          refine wpAny_ready (rs := [7]) (by kernel_rfl) (by simp) ?_
          refine AllReady.cons (o := _) rfl (fun K hK => ?_) AllReady.nil
          go_simp
          have hm4 := sum_any _ [M2, S] _ ho3.out (HK.out.below hb3.out (by have := H1.out; omega)) (HF.out.below hb3.out H1.out) (Nat.lt_of_lt_of_le H1.out hb3.out.size) (by simp [HL2.out, HSL.out]) (by simp)
          rw [show [M2, S].flatten = M2 ++ S by simp, HT2.out] at hm4
          refine hm4.mono ?_
          clear hm4
          intro e V4 hp
          obtain ⟨rfl, hc4⟩ := hp
          have hb4 := Lib.hid (hb3.out.trans (hc4.mono hb3.out.size))
          have hd4 := Lib.hid (hd3.out.trans (hc4.mono hd3.out.size))
          clear hc4
          refine hK _ _ ?_
          clear hK K
          try simp only [Act.put, List.setIfInBounds_toArray, List.set_cons_zero, List.set_cons_succ]
          refine wpAny_take (i := 8) (oi := ?oi8b) (v := ?v8b) ?hi8b ?hs8b ?hf8b ?hr8b ?hQ8b ?hy8b ?h8b
          case hi8b => exact (by simp only [List.getElem?_toArray, List.getElem?_cons_succ, List.getElem?_cons_zero]; rfl)
          case hs8b => kernel_rfl
          case hf8b => kernel_rfl
          case hr8b => kernel_rfl
          case hQ8b => exact fun _ _ _ h => h
          case hy8b =>
            refine Or.inl ⟨rfl, ?_⟩
            intro W
            go_simp
            try with_reducible rfl
          try simp only [Act.put, List.setIfInBounds_toArray, List.set_cons_zero, List.set_cons_succ]
          refine wpAny_take (i := 9) (oi := ?oi9b) (v := ?v9b) ?hi9b ?hs9b ?hf9b ?hr9b ?hQ9b ?hy9b ?h9b
          case hi9b => exact (by simp only [List.getElem?_toArray, List.getElem?_cons_succ, List.getElem?_cons_zero]; rfl)
          case hs9b => kernel_rfl
          case hf9b => kernel_rfl
          case hr9b => kernel_rfl
          case hQ9b => exact fun _ _ _ h => h
          case hy9b =>
            refine Or.inl ⟨rfl, ?_⟩
            intro W
            go_simp
            try with_reducible rfl
          try simp only [Act.put, List.setIfInBounds_toArray, List.set_cons_zero, List.set_cons_succ]
          refine wpAny_ready (rs := [10]) (by kernel_rfl) (by simp) ?_
          refine AllReady.cons (o := _) rfl (fun K hK => ?_) AllReady.nil
          go_simp
          have hm5 := mawake_any _ (HK.out.below hb4.out (by have := H1.out; omega)) (HF.out.below hb4.out H1.out) (Nat.lt_of_lt_of_le H1.out hb4.out.size)
          refine hm5.mono ?_
          clear hm5
          intro e V5 hp
          obtain ⟨rfl, hc5⟩ := hp
          have hb5 := Lib.hid (hb4.out.trans (hc5.mono hb4.out.size))
          have hd5 := Lib.hid (hd4.out.trans (hc5.mono hd4.out.size))
          clear hc5
          refine hK _ _ ?_
          clear hK K
          try simp only [Act.put, List.setIfInBounds_toArray, List.set_cons_zero, List.set_cons_succ]
          refine wpAny_take (i := 11) (oi := ?oi11b) (v := ?v11b) ?hi11b ?hs11b ?hf11b ?hr11b ?hQ11b ?hy11b ?h11b
          case hi11b => exact (by simp only [List.getElem?_toArray, List.getElem?_cons_succ, List.getElem?_cons_zero]; rfl)
          case hs11b => kernel_rfl
          case hf11b => kernel_rfl
          case hr11b => kernel_rfl
          case hQ11b => exact fun _ _ _ h => h
          case hy11b =>
            refine Or.inl ⟨rfl, ?_⟩
            intro W
            go_simp
            try with_reducible rfl
          try simp only [Act.put, List.setIfInBounds_toArray, List.set_cons_zero, List.set_cons_succ]
          refine wpAny_take (i := 12) (oi := ?oi12b) (v := ?v12b) ?hi12b ?hs12b ?hf12b ?hr12b ?hQ12b ?hy12b ?h12b
          case hi12b => exact (by simp only [List.getElem?_toArray, List.getElem?_cons_succ, List.getElem?_cons_zero]; rfl)
          case hs12b => kernel_rfl
          case hf12b => kernel_rfl
          case hr12b => kernel_rfl
          case hQ12b => exact fun _ _ _ h => h
          case hy12b =>
            refine Or.inl ⟨rfl, ?_⟩
            intro W
            go_simp
            try with_reducible rfl
          try simp only [Act.put, List.setIfInBounds_toArray, List.set_cons_zero, List.set_cons_succ]
          refine wpAny_done (by kernel_rfl) ?_ _
          go_wp2_with fail
          go_ret
          exact ⟨rfl, hb5.out⟩
      · go_simp
        have hr1 := pbs_two (HQ0.out.below HD0.out) (HP0.out.below HD0.out) 27
        have hp1 := Lib.hid hr1
        clear hr1
        have hb1 := Lib.hid (HB0.out.alloc HB0.out.size (.cells #[.slice (some ⟨Ro, 0, none⟩) 64 64, .slice (some ⟨R8, 0, none⟩) 32 32] 27))
        have hd1 := Lib.hid (HD0.out.alloc HD0.out.size (.cells #[.slice (some ⟨Ro, 0, none⟩) 64 64, .slice (some ⟨R8, 0, none⟩) 32 32] 27))
        refine hK _ _ ?_
        clear hK K
        try simp only [Act.put, List.setIfInBounds_toArray, List.set_cons_zero, List.set_cons_succ]
        refine wpAny_ready (rs := [2]) (by kernel_rfl) (by simp) ?_
        refine AllReady.cons (o := _) rfl (fun K hK => ?_) AllReady.nil
        go_simp
        have hr2 := pbs_one (HP.out.below hb1.out) 27
        rw [size_alloc1] at hr2
        have hp2 := Lib.hid hr2
        clear hr2
        have ho2 := Lib.hid (hp1.out.below ((Below.refl _ _).alloc (Nat.le_refl _) (.cells #[.slice A2 m c2] 27)))
        have hb2 := Lib.hid (hb1.out.alloc hb1.out.size (.cells #[.slice A2 m c2] 27))
        have hd2 := Lib.hid (hd1.out.alloc hd1.out.size (.cells #[.slice A2 m c2] 27))
        refine hK _ _ ?_
        clear hK K
        try simp only [Act.put, List.setIfInBounds_toArray, List.set_cons_zero, List.set_cons_succ]
        refine wpAny_ready (rs := [3]) (by kernel_rfl) (by simp) ?_
        refine AllReady.cons (o := _) rfl (fun K hK => ?_) AllReady.nil
        go_simp
        have hm3 := mtag_any _ _ key [b] _ (HV.out.below hb2.out) hp2.out (HK.out.below hb2.out (by have := H1.out; omega)) (HF.out.below hb2.out H1.out) (Nat.lt_of_lt_of_le H1.out hb2.out.size) (by have := HNB.out; omega) (by rw [flat_one]; have := HMB.out; omega) (by simp)
        rw [flat_one, ← HT.out] at hm3
        refine hm3.mono ?_
        clear hm3
        intro e V3 hp
        obtain ⟨rfl, hc3⟩ := hp
        have hb3 := Lib.hid (hb2.out.trans (hc3.mono hb2.out.size))
        have hd3 := Lib.hid (hd2.out.trans (hc3.mono hd2.out.size))
        have ho3 := Lib.hid (ho2.out.below hc3)
        clear hc3
        refine hK _ _ ?_
        clear hK K
        try simp only [Act.put, List.setIfInBounds_toArray, List.set_cons_zero, List.set_cons_succ]
        refine wpAny_ready (rs := [7]) (by kernel_rfl) (by simp) ?_
        refine AllReady.cons (o := _) rfl (fun K hK => ?_) AllReady.nil
        go_simp
        have hm4 := sum_any _ [M2, S] _ ho3.out (HK.out.below hb3.out (by have := H1.out; omega)) (HF.out.below hb3.out H1.out) (Nat.lt_of_lt_of_le H1.out hb3.out.size) (by simp [HL2.out, HSL.out]) (by simp)
        rw [show [M2, S].flatten = M2 ++ S by simp, HT2.out] at hm4
        refine hm4.mono ?_
        clear hm4
        intro e V4 hp
        obtain ⟨rfl, hc4⟩ := hp
        have hb4 := Lib.hid (hb3.out.trans (hc4.mono hb3.out.size))
        have hd4 := Lib.hid (hd3.out.trans (hc4.mono hd3.out.size))
        clear hc4
        refine hK _ _ ?_
        clear hK K
        try simp only [Act.put, List.setIfInBounds_toArray, List.set_cons_zero, List.set_cons_succ]
        refine wpAny_take (i := 8) (oi := ?oi8c) (v := ?v8c) ?hi8c ?hs8c ?hf8c ?hr8c ?hQ8c ?hy8c ?h8c
        case hi8c => exact (by simp only [List.getElem?_toArray, List.getElem?_cons_succ, List.getElem?_cons_zero]; rfl)
        case hs8c => kernel_rfl
        case hf8c => kernel_rfl
        case hr8c => kernel_rfl
        case hQ8c => exact fun _ _ _ h => h
        case hy8c =>
          refine Or.inl ⟨rfl, ?_⟩
          intro W
          go_simp
          try with_reducible rfl
        try simp only [Act.put, List.setIfInBounds_toArray, List.set_cons_zero, List.set_cons_succ]
        refine wpAny_take (i := 9) (oi := ?oi9c) (v := ?v9c) ?hi9c ?hs9c ?hf9c ?hr9c ?hQ9c ?hy9c ?h9c
        case hi9c => exact (by simp only [List.getElem?_toArray, List.getElem?_cons_succ, List.getElem?_cons_zero]; rfl)
        case hs9c => kernel_rfl
        case hf9c => kernel_rfl
        case hr9c => kernel_rfl
        case hQ9c => exact fun _ _ _ h => h
        case hy9c =>
          refine Or.inl ⟨rfl, ?_⟩
          intro W
          go_simp
          try with_reducible rfl
        try simp only [Act.put, List.setIfInBounds_toArray, List.set_cons_zero, List.set_cons_succ]
        refine wpAny_ready (rs := [10]) (by kernel_rfl) (by simp) ?_
        refine AllReady.cons (o := _) rfl (fun K hK => ?_) AllReady.nil
        go_simp
        have hm5 := mawake_any _ (HK.out.below hb4.out (by have := H1.out; omega)) (HF.out.below hb4.out H1.out) (Nat.lt_of_lt_of_le H1.out hb4.out.size)
        refine hm5.mono ?_
        clear hm5
        intro e V5 hp
        obtain ⟨rfl, hc5⟩ := hp
        have hb5 := Lib.hid (hb4.out.trans (hc5.mono hb4.out.size))
        have hd5 := Lib.hid (hd4.out.trans (hc5.mono hd4.out.size))
        clear hc5
        refine hK _ _ ?_
        clear hK K
        try simp only [Act.put, List.setIfInBounds_toArray, List.set_cons_zero, List.set_cons_succ]
        refine wpAny_take (i := 11) (oi := ?oi11c) (v := ?v11c) ?hi11c ?hs11c ?hf11c ?hr11c ?hQ11c ?hy11c ?h11c
        case hi11c => exact (by simp only [List.getElem?_toArray, List.getElem?_cons_succ, List.getElem?_cons_zero]; rfl)
        case hs11c => kernel_rfl
        case hf11c => kernel_rfl
        case hr11c => kernel_rfl
        case hQ11c => exact fun _ _ _ h => h
        case hy11c =>
          refine Or.inl ⟨rfl, ?_⟩
          intro W
          go_simp
          try with_reducible rfl
        try simp only [Act.put, List.setIfInBounds_toArray, List.set_cons_zero, List.set_cons_succ]
        refine wpAny_take (i := 12) (oi := ?oi12c) (v := ?v12c) ?hi12c ?hs12c ?hf12c ?hr12c ?hQ12c ?hy12c ?h12c
        case hi12c => exact (by simp only [List.getElem?_toArray, List.getElem?_cons_succ, List.getElem?_cons_zero]; rfl)
        case hs12c => kernel_rfl
        case hf12c => kernel_rfl
        case hr12c => kernel_rfl
        case hQ12c => exact fun _ _ _ h => h
        case hy12c =>
          refine Or.inl ⟨rfl, ?_⟩
          intro W
          go_simp
          try with_reducible rfl
        try simp only [Act.put, List.setIfInBounds_toArray, List.set_cons_zero, List.set_cons_succ]
        refine wpAny_done (by kernel_rfl) ?_ _
        go_wp2_with fail
        go_ret
        exact ⟨rfl, hb5.out⟩
end Go.Proofs.YtbnmblhpoaaegaaDoor
