/- A tag fits, and no more when one of its bytes is another one, or it is cut short: MacOwn returns true for every input. -/
import Derived.Test.YtbnmblhpoaaegaaDoorM9
namespace Go.Proofs.YtbnmblhpoaaegaaDoor
open Go.RowKit

theorem pb_cut {w : World} {B : Nat} {T : List UInt8} {r : Nat} (hr : w.heap[B]? = some (.cells (bv T).toArray 30 (0, 0))) (hT : T.length = 32) (h : r ≤ 32) : Pb w (.slice (some ⟨B, 0, none⟩) r 32) (T.take r) := by
  have hl : (T.take r).length = r := by simp; omega
  refine ⟨_, 32, by rw [hl], by omega, fun _ => ⟨B, 0, rfl, lt_of_block' hr, fun j u hu => ?_⟩⟩
  rw [cell_of_row _ _ (0 + j) _ _ _ hr, Nat.zero_add, List.getElem?_toArray]
  simp only [bv, List.map_take, List.getElem?_take] at hu ⊢
  split at hu
  · exact hu
  · cases hu
theorem pb_whole {w : World} {B : Nat} {T : List UInt8} (hr : w.heap[B]? = some (.cells (bv T).toArray 30 (0, 0))) (hT : T.length = 32) : Pb w (.slice (some ⟨B, 0, none⟩) 32 32) T := by
  have := pb_cut (r := 32) hr hT (Nat.le_refl _)
  rwa [List.take_of_length_le (by omega)] at this
theorem run_slice_front (w : World) (R r : Nat) (hr : r ≤ 32) :
    (Instr.sliceAt 30 (.pointer (some ⟨R, 0, none⟩)) Option.none (some (.int .u8 (r : Int))) Option.none).run Tryd.prog w = .ok (.slice (some ⟨R, 0, none⟩) r 32) w := by
  cases hq : Tryd.prog.info? 5 with
  | none => exact absurd Tryd.size5 (by simp [hq])
  | some i =>
    have h1 : i.size = 1 := by simpa [hq] using Tryd.size5
    have h2 : ¬ (32 < (r : Int)) := by omega
    have h3 : (r : Int) ≤ 32 := by omega
    simp [Instr.sliceAt, Instr.sureAddr, Sem.run_bind, run_underlying Tryd.underlying30, Instr.sliceBounds, run_sliceBound, sizeOf, typeInfo, hq, h3, Addr.add_mid]
theorem turned_ne (T : List UInt8) (r : Nat) (x s : UInt8) (hr : r < T.length) (hx : T[r] = x) (hs : s ≠ 0) : T.set r (x ^^^ s) ≠ T := by
  intro e
  have h : (T.set r (x ^^^ s))[r]? = T[r]? := by rw [e]
  rw [List.getElem?_set_self (by simpa using hr), List.getElem?_eq_getElem hr, hx] at h
  injection h with h
  apply hs
  have : x ^^^ (x ^^^ s) = x ^^^ x := by rw [h]
  rw [← UInt8.xor_assoc, UInt8.xor_self, UInt8.zero_xor] at this
  exact this

set_option maxHeartbeats 2000000 in
set_option maxRecDepth 4000 in
theorem mown_walk (v u : Value) (a : Nat) (key : List UInt8) (ps : List (List UInt8)) (w : World) (hv : Pb w v key) (hp : Pbs w u ps) (hk : Kt w) (hf : Ft w) (h1 : 1 < w.heap.size) (hkl : key.length ≤ 9223372036854775807) (hpl : ps.length ≤ 9223372036854775807) (hql : ∀ p ∈ ps, p.length ≤ 9223372036854775807) (ha : a < 256) :
    Calls Tryd.prog 12 #[v, u, .int .u8 (a : Int)] w fun e w' => e = .returned (.bool true) ∧ Below w.heap.size w w' := by
  obtain ⟨A, c, rfl, _, _⟩ := id hv
  obtain ⟨A2, c2, rfl, _, _⟩ := id hp
  have hfew := mfew_any _ ps w hp hpl hql
  obtain ⟨fb, hfb⟩ : ∃ fb, fb = mfewB ps := ⟨_, rfl⟩
  rw [← hfb] at hfew
  obtain ⟨n, hn⟩ : ∃ n, n = key.length := ⟨_, rfl⟩
  rw [← hn] at hv hkl ⊢
  have HN := Lib.hid hn
  have HFEW := Lib.hid hfew
  have HFB := Lib.hid hfb
  have HV := Lib.hid hv
  have HP := Lib.hid hp
  have HK := Lib.hid hk
  have HF := Lib.hid hf
  have H1 := Lib.hid h1
  clear hfew hfb hv hp hk hf hql hn h1
  go_enter Tryd.func12, Tryd.ntmps12
  by_cases hbig : 200 < n
  · have t : decide ((n : Int) > 200) = true := by rw [decide_eq_true_iff]; omega
    go_wp2_with fail
    go_ret
    exact ⟨rfl, Below.refl _ _⟩
  have t : decide ((n : Int) > 200) = false := by rw [decide_eq_false_iff_not]; omega
  go_wp2_with fail
  refine HFEW.out.mono ?_
  rintro e w0 ⟨rfl, rfl⟩
  clear HFEW
  cases fb with
  | false =>
    go_wp2_with fail
    go_ret
    exact ⟨rfl, Below.refl _ _⟩
  | true =>
    have hfl := mfew_flat HFB.out.symm
    have hmk := make_any _ key w HV.out HK.out HF.out H1.out (by have := HN.out; omega)
    have HMK := Lib.hid hmk
    clear hmk hbig
    go_wp2_with fail
    refine HMK.out.mono ?_
    rintro e w2 ⟨rfl, hk2, hb2⟩
    obtain ⟨K, hK⟩ : ∃ K, K = w.heap.size := ⟨_, rfl⟩
    rw [← hK] at hk2 ⊢
    obtain ⟨bl, hbl⟩ : ∃ bl, bl = blockP key := ⟨_, rfl⟩
    rw [← hbl] at hk2
    have hkt := ktag_any K bl _ ps w2 hk2 (HP.out.below hb2) (HK.out.below hb2 (by have := H1.out; omega)) (HF.out.below hb2 H1.out) (Nat.lt_of_lt_of_le H1.out hb2.size) (by omega) hpl
    have hft := fun (w1 : World) (hb : Below w.heap.size w w1) (hk1 : IsK w1 K bl) v tag ht htl => fits_any K bl v _ tag ps w1 hk1 ht (HP.out.below hb) (HK.out.below hb (by have := H1.out; omega)) (HF.out.below hb H1.out) (Nat.lt_of_lt_of_le H1.out hb.size) htl (by omega) hpl
    obtain ⟨T, hT⟩ : ∃ T, T = sumP (mixP 92 bl ++ sumP (mixP 54 bl ++ ps.flatten)) := ⟨_, rfl⟩
    have hTl : T.length = 32 := by rw [hT, sumP_length]
    rw [← hT] at hkt hft
    have I30 := Lib.hid (show (Tryd.prog.info? 30).map (·.size) = some ((bv T).toArray.size) by
      rw [Tryd.size30]
      simp [bv, hTl])
    have S30 := Lib.hid (show z32.size = (bv T).toArray.size by
      simp only [bv, List.size_toArray, List.length_map, hTl]
      rfl)
    have HKT := Lib.hid hkt
    have HFT := Lib.hid hft
    have HTL := Lib.hid hTl
    have HB2 := Lib.hid hb2
    have HK2 := Lib.hid hk2
    clear hkt hft hT hTl hb2 hk2 hbl hK HMK
    go_wp2_with fail
    refine HKT.out.mono ?_
    rintro e w3 ⟨rfl, hb3⟩
    have HB3 := Lib.hid (HB2.out.trans (hb3.mono HB2.out.size))
    have HK3 := Lib.hid (HK2.out.below hb3)
    clear hb3 HB2 HK2 HKT
    go_upto_region 7 with (refine wpList_store_row rfl 30 (.tmp 8) (.tmp 24) rfl w3.heap.size (bv T).toArray rfl rfl 30 z32 (heap_alloc_new w3 _) I30.out S30.out (bv_one _) ?_; rw [World.setRow_alloc_new])
    obtain ⟨w4, hw4⟩ : ∃ w4, w4 = w3.alloc (.cells (bv T).toArray 30) := ⟨_, rfl⟩
    obtain ⟨R, hR⟩ : ∃ R, R = w3.heap.size := ⟨_, rfl⟩
    rw [← hw4, ← hR]
    have hb34 : Below w3.heap.size w3 w4 := by rw [hw4]; exact (Below.refl _ _).alloc (Nat.le_refl _) _
    have HR4 := Lib.hid (show w4.heap[R]? = some (.cells (bv T).toArray 30 (0, 0)) by rw [hw4, hR]; exact heap_alloc_new w3 _)
    have HB4 := Lib.hid (HB3.out.trans (hb34.mono HB3.out.size))
    have HK4 := Lib.hid (HK3.out.below hb34)
    clear hb34 hw4 hR HB3 HK3
    go_upto_region 8 with (first
      | refine wpList_load_row rfl 30 (.tmp 8) rfl R rfl 30 (bv T).toArray (0, 0) _ HR4.out Tryd.underlying30 rfl I30.out ?_
      | (refine wpList_store_row rfl 30 (.tmp 9) (.tmp 25) rfl w4.heap.size (bv T).toArray rfl rfl 30 z32 (heap_alloc_new w4 _) I30.out S30.out (bv_one _) ?_; rw [World.setRow_alloc_new]))
    obtain ⟨w5, hw5⟩ : ∃ w5, w5 = w4.alloc (.cells (bv T).toArray 30) := ⟨_, rfl⟩
    obtain ⟨R2, hR2⟩ : ∃ R, R = w4.heap.size := ⟨_, rfl⟩
    rw [← hw5, ← hR2]
    have hb45 : Below w4.heap.size w4 w5 := by rw [hw5]; exact (Below.refl _ _).alloc (Nat.le_refl _) _
    have HR5 := Lib.hid (show w5.heap[R2]? = some (.cells (bv T).toArray 30 (0, 0)) by rw [hw5, hR2]; exact heap_alloc_new w4 _)
    have HR4' := Lib.hid (show w5.heap[R]? = some (.cells (bv T).toArray 30 (0, 0)) from (hb45.block R (lt_of_block' HR4.out)).trans HR4.out)
    have HB5 := Lib.hid (HB4.out.trans (hb45.mono HB4.out.size))
    have HK5 := Lib.hid (HK4.out.below hb45)
    have HRR := Lib.hid (show R < R2 ∧ K < R2 ∧ w.heap.size ≤ R2 by rw [hR2]; exact ⟨lt_of_block' HR4.out, lt_of_block' HK4.out.2, HB4.out.size⟩)
    clear hb45 hw5 hR2 HB4 HK4 HR4
    obtain ⟨r, hr⟩ : ∃ r, r = a % 32 := ⟨_, rfl⟩
    obtain ⟨q, hq⟩ : ∃ q, q = a / 32 := ⟨_, rfl⟩
    have hr32 : r < 32 := by omega
    have er : ((a : Int) % 32) = (r : Int) := by omega
    have eq : ((a : Int) / 32) = (q : Int) := by omega
    have hrT : r < T.length := by rw [HTL.out]; exact hr32
    obtain ⟨x, hx⟩ : ∃ x : UInt8, x = T[r] := ⟨_, rfl⟩
    obtain ⟨s, hs⟩ : ∃ s : UInt8, s = UInt8.ofNat (1 + q) := ⟨_, rfl⟩
    have hsn : s.toNat = 1 + q := by rw [hs]; simp; omega
    have HS := Lib.hid hsn
    have hcell := bytes_cell HR5.out (k := r) hrT
    rw [show T.getD r 0 = x by rw [hx]; simp [List.getD, hrT]] at hcell
    have hfr : w5.frozen? ⟨R2, r, none⟩ = false := frozen_of_row w5 _ _ _ _ HR5.out
    have HX := Lib.hid hx
    clear hx hs hsn hr hq
    go_upto_region 9 with (fail)
    have e3 : (1 + (q : Int)) = (s.toNat : Int) := by have := HS.out; omega
    rw [e3, xor_bytes]
    obtain ⟨w6, hw6⟩ : ∃ w6, w6 = w5.setCell ⟨R2, r, none⟩ (.int .u8 ((x ^^^ s).toNat : Int)) := ⟨_, rfl⟩
    rw [← hw6]
    obtain ⟨T2, hT2⟩ : ∃ T2, T2 = T.set r (x ^^^ s) := ⟨_, rfl⟩
    have hr6 : w6.heap[R2]? = some (.cells (bv T2).toArray 30 (0, 0)) := by
      rw [hw6, hT2]
      exact bytes_set HR5.out
    have hb56 : Below R2 w5 w6 := by
      rw [hw6]
      refine (Below.refl R2 w5).setCell ?_ _
      exact Nat.le_refl _
    have hrt : w6.heap[R]? = some (.cells (bv T).toArray 30 (0, 0)) := (hb56.block R HRR.out.1).trans HR4'.out
    have hk6 : IsK w6 K bl := ⟨HK5.out.1, (hb56.block K HRR.out.2.1).trans HK5.out.2⟩
    have hb6 : Below w.heap.size w w6 := HB5.out.trans (hb56.mono HRR.out.2.2)
    have hT2n : T2 ≠ T := by
      rw [hT2]
      exact turned_ne T r x s hrT HX.out.symm (fun e => by have := HS.out; rw [e] at this; simp at this; omega)
    have hT2l : T2.length = 32 := by rw [hT2, List.length_set]; exact HTL.out
    have hm6 := HFT.out w6 hb6 hk6 _ T (pb_whole hrt HTL.out) (by rw [HTL.out]; omega)
    rw [decide_eq_true rfl] at hm6
    have HM6 := Lib.hid hm6
    have HR6 := Lib.hid hr6
    have HRT := Lib.hid hrt
    have HK6 := Lib.hid hk6
    have HB6 := Lib.hid hb6
    have HTN := Lib.hid hT2n
    have HT2L := Lib.hid hT2l
    clear hm6 hr6 hrt hk6 hb6 hT2n hT2l hw6 hT2 hb56 hcell hfr e3 HR4' HR5 HB5 HK5
    go_wp2_with fail
    refine HM6.out.mono ?_
    rintro e w7 ⟨rfl, hb7⟩
    have HK7 := Lib.hid (HK6.out.below hb7)
    have HB7 := Lib.hid (HB6.out.trans (hb7.mono HB6.out.size))
    have HR7 := Lib.hid ((hb7.block R2 (lt_of_block' HR6.out)).trans HR6.out)
    have HRT7 := Lib.hid ((hb7.block R (lt_of_block' HRT.out)).trans HRT.out)
    have hm7 := HFT.out w7 HB7.out HK7.out _ T2 (pb_whole HR7.out HT2L.out) (by rw [HT2L.out]; omega)
    rw [decide_eq_false HTN.out] at hm7
    have HM7 := Lib.hid hm7
    have hsl := fun W => run_slice_front W R r (Nat.le_of_lt hr32)
    clear hm7 hb7 HM6 HR6 HRT HK6 HB6
    go_wp2_with fail
    refine HM7.out.mono ?_
    rintro e w8 ⟨rfl, hb8⟩
    have HK8 := Lib.hid (HK7.out.below hb8)
    have HB8 := Lib.hid (HB7.out.trans (hb8.mono HB7.out.size))
    have HRT8 := Lib.hid ((hb8.block R (lt_of_block' HRT7.out)).trans HRT7.out)
    have htk : (T.take r).length = r := by rw [List.length_take, HTL.out]; omega
    have hm8 := HFT.out w8 HB8.out HK8.out _ (T.take r) (pb_cut (r := r) HRT8.out HTL.out (by omega)) (by rw [htk]; omega)
    rw [decide_eq_false (fun e => by rw [e, HTL.out] at htk; omega)] at hm8
    have HM8 := Lib.hid hm8
    clear hm8 hb8 htk HM7 HR7 HRT7 HK7 HB7
    go_wp2_with fail
    clear hsl
    refine HM8.out.mono ?_
    rintro e w9 ⟨rfl, hb9⟩
    have HB9 := Lib.hid (HB8.out.trans (hb9.mono HB8.out.size))
    have haw := mawake_any w9 (HK.out.below HB9.out (by have := H1.out; omega)) (HF.out.below HB9.out H1.out) (Nat.lt_of_lt_of_le H1.out HB9.out.size)
    have HA := Lib.hid haw
    clear hb9 haw HM8 HB8 HK8 HRT8
    go_wp2_with fail
    refine HA.out.mono ?_
    rintro e w10 ⟨rfl, hb10⟩
    have HB10 := Lib.hid (HB9.out.trans (hb10.mono HB9.out.size))
    clear hb10 HA HB9
    go_wp2_with fail
    go_ret
    exact ⟨rfl, HB10.out⟩
end Go.Proofs.YtbnmblhpoaaegaaDoor
