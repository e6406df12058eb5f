/- A sum is a chain of steps: ShaChain returns true for every input. -/
import Derived.Test.YtbnmblhpoaaegaaDoorSI
namespace Go.Proofs.YtbnmblhpoaaegaaDoor
open Go.RowKit

theorem be8_small (n : Nat) (h : n < 65536) : be8 n = [0, 0, 0, 0, 0, 0, UInt8.ofNat (n / 256), UInt8.ofNat n] := by
  have e : List.range 8 = [0, 1, 2, 3, 4, 5, 6, 7] := rfl
  have z : ∀ k, 16 ≤ k → n / 2 ^ k = 0 := fun k hk => Nat.div_eq_of_lt (Nat.lt_of_lt_of_le h (Nat.le_trans (by decide : 65536 ≤ 2 ^ 16) (Nat.pow_le_pow_right (by decide) hk)))
  unfold be8
  rw [e]
  simp only [List.map]
  rw [z _ (by omega), z _ (by omega), z _ (by omega), z _ (by omega), z _ (by omega), z _ (by omega)]
  simp
def f8 : Array Value := #[.int .u32 1779033703, .int .u32 3144134277, .int .u32 1013904242, .int .u32 2773480762, .int .u32 1359893119, .int .u32 2600822924, .int .u32 528734635, .int .u32 1541459225]
theorem f8_eq : f8 = (wv fw).toArray := by simp [f8, wv, fw, iv]
def zb64 : Array Value := #[Value.int .u8 0, Value.int .u8 0, Value.int .u8 0, Value.int .u8 0, Value.int .u8 0, Value.int .u8 0, Value.int .u8 0, Value.int .u8 0, Value.int .u8 0, Value.int .u8 0, Value.int .u8 0, Value.int .u8 0, Value.int .u8 0, Value.int .u8 0, Value.int .u8 0, Value.int .u8 0, Value.int .u8 0, Value.int .u8 0, Value.int .u8 0, Value.int .u8 0, Value.int .u8 0, Value.int .u8 0, Value.int .u8 0, Value.int .u8 0, Value.int .u8 0, Value.int .u8 0, Value.int .u8 0, Value.int .u8 0, Value.int .u8 0, Value.int .u8 0, Value.int .u8 0, Value.int .u8 0, Value.int .u8 0, Value.int .u8 0, Value.int .u8 0, Value.int .u8 0, Value.int .u8 0, Value.int .u8 0, Value.int .u8 0, Value.int .u8 0, Value.int .u8 0, Value.int .u8 0, Value.int .u8 0, Value.int .u8 0, Value.int .u8 0, Value.int .u8 0, Value.int .u8 0, Value.int .u8 0, Value.int .u8 0, Value.int .u8 0, Value.int .u8 0, Value.int .u8 0, Value.int .u8 0, Value.int .u8 0, Value.int .u8 0, Value.int .u8 0, Value.int .u8 0, Value.int .u8 0, Value.int .u8 0, Value.int .u8 0, Value.int .u8 0, Value.int .u8 0, Value.int .u8 0, Value.int .u8 0]
theorem zb64_lit : #[Value.int .u8 0, Value.int .u8 0, Value.int .u8 0, Value.int .u8 0, Value.int .u8 0, Value.int .u8 0, Value.int .u8 0, Value.int .u8 0, Value.int .u8 0, Value.int .u8 0, Value.int .u8 0, Value.int .u8 0, Value.int .u8 0, Value.int .u8 0, Value.int .u8 0, Value.int .u8 0, Value.int .u8 0, Value.int .u8 0, Value.int .u8 0, Value.int .u8 0, Value.int .u8 0, Value.int .u8 0, Value.int .u8 0, Value.int .u8 0, Value.int .u8 0, Value.int .u8 0, Value.int .u8 0, Value.int .u8 0, Value.int .u8 0, Value.int .u8 0, Value.int .u8 0, Value.int .u8 0, Value.int .u8 0, Value.int .u8 0, Value.int .u8 0, Value.int .u8 0, Value.int .u8 0, Value.int .u8 0, Value.int .u8 0, Value.int .u8 0, Value.int .u8 0, Value.int .u8 0, Value.int .u8 0, Value.int .u8 0, Value.int .u8 0, Value.int .u8 0, Value.int .u8 0, Value.int .u8 0, Value.int .u8 0, Value.int .u8 0, Value.int .u8 0, Value.int .u8 0, Value.int .u8 0, Value.int .u8 0, Value.int .u8 0, Value.int .u8 0, Value.int .u8 0, Value.int .u8 0, Value.int .u8 0, Value.int .u8 0, Value.int .u8 0, Value.int .u8 0, Value.int .u8 0, Value.int .u8 0] = zb64 := rfl
theorem zb64_eq : zb64 = (bv (List.replicate 64 0)).toArray := rfl
/-- The first k bytes of a block, noughts behind them. -/
def cpy (bl : List UInt8) (k : Nat) : List UInt8 := bl.take k ++ List.replicate (64 - k) 0
theorem cpy_length (bl : List UInt8) (k : Nat) (hb : bl.length = 64) (hk : k ≤ 64) : (cpy bl k).length = 64 := by
  simp [cpy]
  omega
theorem cpy_next (bl : List UInt8) (k : Nat) (hb : bl.length = 64) (hk : k < 64) : cpy bl (k + 1) = (cpy bl k).set k (bl.getD k 0) := by
  have hl : (bl.take k).length = k := by simp; omega
  unfold cpy
  rw [List.set_append_right _ _ (by omega), hl, Nat.sub_self, List.take_succ_eq_append_getElem (by omega), show 64 - k = (64 - (k + 1)) + 1 by omega, List.replicate_succ, List.set_cons_zero, List.append_assoc]
  simp [List.getD, List.getElem?_eq_getElem (show k < bl.length by omega)]
theorem pb_at {w : World} {b o n c : Nat} {P : List UInt8} (h : Pb w (.slice (some ⟨b, o, none⟩) n c) P) {j : Nat} (hj : j < P.length) : w.cell? ⟨b, o + j, none⟩ = some (.int .u8 ((P.getD j 0).toNat : Int)) := by
  obtain ⟨A, c', e, _, hr⟩ := h
  obtain ⟨b', o', rfl, _, hc⟩ := hr (by omega)
  injection e with e1 _ _
  injection e1 with e1
  injection e1 with e4 e5
  subst e4 e5
  apply hc
  simp [bv, List.getD, List.getElem?_eq_getElem hj]
theorem pb_eight {w : World} (n : Nat) (h : n ≤ 600) : Pb (w.alloc (.cells #[.int .u8 0, .int .u8 0, .int .u8 0, .int .u8 0, .int .u8 0, .int .u8 0, .int .u8 ((n : Int) * 8 / 256), .int .u8 ((n : Int) * 8 % 256)] 5)) (.slice (some ⟨w.heap.size, 0, none⟩) 8 8) (be8 (8 * n)) := by
  have e := be8_small (8 * n) (by omega)
  refine ⟨_, 8, by rw [be8_length], by rw [be8_length]; omega, fun _ => ⟨w.heap.size, 0, rfl, by simp, fun j u hu => ?_⟩⟩
  rw [cell_of_row _ _ _ _ _ _ (heap_alloc_new w _), Nat.zero_add, List.getElem?_toArray, ← hu, e]
  congr 1
  simp [bv]
  omega

set_option linter.unusedSimpArgs false in
set_option maxHeartbeats 4000000 in
set_option maxRecDepth 4000 in
theorem chain_walk (v : Value) (l : List UInt8) (w : World) (hp : Pb w v l) (hk : Kt w) (hf : Ft w) (h1 : 1 < w.heap.size) (hpl : l.length ≤ 9223372036854775807) :
    Calls Tryd.prog 7 #[v] w fun e w' => e = .returned (.bool true) ∧ Below w.heap.size w w' := by
  obtain ⟨A, c, rfl, _, _⟩ := id hp
  have HP := Lib.hid hp
  have HK := Lib.hid hk
  have HF := Lib.hid hf
  have H1 := Lib.hid h1
  clear hp hk hf h1
  go_enter Tryd.func7, Tryd.ntmps7
  by_cases hbig : 600 < l.length
  · have t : decide ((l.length : Int) > 600) = true := by rw [decide_eq_true_iff]; omega
    go_wp2_with fail
    go_ret
    exact ⟨rfl, Below.refl _ _⟩
  have t : decide ((l.length : Int) > 600) = false := by rw [decide_eq_false_iff_not]; omega
  have hlen : l.length ≤ 600 := by omega
  have hba : Below w.heap.size w (w.alloc (.cells #[] 5)) := (Below.refl _ _).alloc (Nat.le_refl _) _
  have ho0 : (w.alloc (.cells #[] 5)).ownsRow w.heap.size 5 1 (.slice (some ⟨w.heap.size, 0, none⟩) 0 0) ([] : List UInt8).length (bv []) := World.ownsRow_lit w #[] 0 (Nat.le_refl _) (by unfold maxLen; omega) rfl
  have hpa := HP.out.below hba
  have HBA := Lib.hid hba
  have HO0 := Lib.hid ho0
  have HPA := Lib.hid hpa
  clear hba ho0 hpa hbig
  go_wp2_with (first
    | (at_builtin; refine wpList_append_bytes rfl (.tmp 14) (.tmp 15) rfl w.heap.size _ (.slice A l.length c) [] l rfl rfl HO0.out HPA.out (by simp; omega) HBA.out.size ?_; intro v2 w2 hown2 hg2; have HW2 : Hid (w2.ownsRow w.heap.size 5 1 v2 l.length (bv l) ∧ Below w.heap.size w w2) := ⟨hown2, HBA.out.grown hg2 HBA.out.size (fun k hk => (HO0.out.lt k hk).1)⟩; clear hown2 hg2)
    | (at_builtin; refine wpList_append_bytes rfl (.tmp 16) (.tmp 17) rfl w.heap.size _ (.slice (some ⟨w2.heap.size, 0, none⟩) 1 1) l [128] rfl rfl (HW2.out.1.alloc _) (pb_byte rfl) (by simp; omega) (Nat.le_trans HW2.out.2.size (by simp)) ?_; intro v3 w3 hown3 hg3; have HW3 : Hid (w3.ownsRow w.heap.size 5 1 v3 (fillX l 0).length (bv (fillX l 0)) ∧ Below w.heap.size w w3) := ⟨by simpa [fillX] using hown3, (HW2.out.2.alloc HW2.out.2.size _).grown hg3 (Nat.le_trans HW2.out.2.size (by simp)) (fun k hk => (HW2.out.1.lt k hk).1)⟩; clear hown3 hg3))
  clear HO0 HPA HBA HW2 t
  obtain ⟨B, hB⟩ : ∃ B, B = w.heap.size := ⟨_, rfl⟩
  rw [← hB] at HW3
  have HBB := Lib.hid hB
  clear hB
  go_loopw [3] (fun u wr => ∃ (m n : Nat) (A3 : Option Addr) (c3 : Nat), m ≤ fillN l.length ∧ Hid (n = (fillX l m).length) ∧ n ≤ 950000 ∧ u = .slice A3 n c3 ∧ Hid (wr.ownsRow B 5 1 u (fillX l m).length (bv (fillX l m)) ∧ Below B w wr)) (fun u _ => l.length + 200 - lenOf u)
  case atStart =>
    obtain ⟨A3, c3, e, _⟩ := own_pb HW3.out.1
    exact ⟨0, (fillX l 0).length, A3, c3, by omega, Lib.hid rfl, by rw [fillX_length]; omega, e, HW3⟩
  case round =>
    clear HW3
    obtain ⟨m, n, A3, c3, hm, hn, hn9, rfl, ho⟩ := hrel
    have hn1 : n = l.length + 1 + m := by rw [hn.out, fillX_length]
    have hfl : fillN l.length = (119 - l.length % 64) % 64 := rfl
    have hsz : B ≤ wr.heap.size := by rw [HBB.out]; exact ho.out.2.size
    by_cases h56 : n % 64 = 56
    · have hmf : m = fillN l.length := by omega
      have t : (((n : Int) % 64) != 56) = false := by rw [bne_eq_false_iff_eq]; omega
      rw [hmf] at ho hn
      obtain ⟨X, hX⟩ : ∃ X, X = fillX l (fillN l.length) := ⟨_, rfl⟩
      rw [← hX] at ho hn
      have HX := Lib.hid hX
      clear hX hn1 hfl hmf hm h56
      have hpb := fun (w : World) => pb_eight (w := w) l.length (by omega)
      have HPB := Lib.hid hpb
      clear hpb
      obtain ⟨P, hP⟩ : ∃ P, P = padP l := ⟨_, rfl⟩
      have hXP : X ++ be8 (8 * l.length) = P := by
        rw [hP, padP_fill, HX.out, List.take_of_length_le (by simp [be8])]
      obtain ⟨N, hN⟩ : ∃ N, N = (l.length + 72) / 64 := ⟨_, rfl⟩
      have hPN : P.length = 64 * N := by rw [hP, padP_length, hN]
      have hN1 : 1 ≤ N := by omega
      have hNs : N ≤ 20000 := by omega
      have HXP := Lib.hid hXP
      have HPN := Lib.hid hPN
      have HPE := Lib.hid hP
      have HN := Lib.hid hN
      have I23 := Lib.hid (show (Tryd.prog.info? 23).map (·.size) = some f8.size by rw [Tryd.size23]; rfl)
      have O23 := Lib.hid (show f8.all (·.oneCell') = true by rw [f8_eq]; exact wv_one _)
      clear hXP hPN hP hN
      go_upto_region 9 with (first
        | (at_builtin; refine wpList_append_bytes rfl (.tmp 30) (.tmp 36) rfl B (.slice A3 n c3) (.slice (some ⟨wr.heap.size, 0, none⟩) 8 8) X (be8 (8 * l.length)) rfl rfl (ho.out.1.alloc _) (HPB.out wr) (by rw [be8_length, ← hn.out]; omega) (by simp; omega) ?_; intro v5 w5 hown5 hg5; have HW5 : Hid (w5.ownsRow B 5 1 v5 (X ++ be8 (8 * l.length)).length (bv (X ++ be8 (8 * l.length))) ∧ Below B w w5) := ⟨hown5, below_app ho.out.2 hsz ho.out.1 hg5⟩; clear hown5 hg5)
        | (refine wpList_store_row rfl 23 (.tmp 5) (.tmp 38) rfl w5.heap.size f8 rfl rfl 23 _ (heap_alloc_new w5 _) I23.out rfl O23.out ?_; rw [World.setRow_alloc_new]))
      have hw5 := HW5.out
      rw [HXP.out] at hw5
      have hpb := own_pb hw5.1
      obtain ⟨b5, o5, c6, e6, hc6, _⟩ := pb_part (j := 0) hpb (by rw [HPN.out]; omega)
      subst e6
      rw [HPN.out] at hpb hc6
      obtain ⟨w6, hw6⟩ : ∃ w6, w6 = w5.alloc (.cells f8 23) := ⟨_, rfl⟩
      rw [← hw6]
      have hr6 : w6.heap[w5.heap.size]? = some (.cells (wv (chain P 0)).toArray 23 (0, 0)) := by
        rw [hw6, heap_alloc_new, f8_eq]
        rfl
      have hb6 : Below w5.heap.size w5 w6 := by rw [hw6]; exact (Below.refl _ _).alloc (Nat.le_refl _) _
      have hbz : B ≤ w5.heap.size := by rw [HBB.out]; exact hw5.2.size
      have HR6 := Lib.hid hr6
      have HB6 := Lib.hid hb6
      have HPP := Lib.hid hpb
      have HBW := Lib.hid hw5.2
      clear hr6 hb6 hw6 hpb hw5 HW5 ho hsz t HPB
      rw [HPN.out]
      go_wp2_with fail
      go_loopw [6] (fun i wr => ∃ j q : Nat, j ≤ N ∧ Hid (q = 64 * j) ∧ i = .int .i64 q ∧ Hid (wr.heap[w5.heap.size]? = some (.cells (wv (chain P j)).toArray 23 (0, 0))) ∧ Hid (Below w5.heap.size w5 wr)) (fun i _ => 64 * N - (intOf i).toNat)
      case atStart => exact ⟨0, 0, by omega, Lib.hid rfl, rfl, HR6, HB6⟩
      case round =>
        clear HR6 HB6
        obtain ⟨j, q, hj, hq, rfl, hrj, hbj⟩ := hrel
        have hq1 := hq.out
        by_cases hjn : j < N
        · have hq2 : q + 64 ≤ 64 * N := by omega
          have hq3 : q ≤ 1280000 := by omega
          have t : decide ((q : Int) < 64 * (N : Int)) = true := by rw [decide_eq_true_iff]; omega
          clear hq1
          go_upto_region 13 with (fail)
          clear t
          rw [zb64_lit]
          obtain ⟨C, hC⟩ : ∃ C, C = chain P j := ⟨_, rfl⟩
          rw [← hC] at hrj
          have hCl : C.length = 8 := by rw [hC, chain_length]
          obtain ⟨bl, hbl⟩ : ∃ bl, bl = (P.drop (64 * j)).take 64 := ⟨_, rfl⟩
          have hbl64 : bl.length = 64 := by rw [hbl, List.length_take, List.length_drop, HPN.out]; omega
          have hC2 : chain P (j + 1) = stepP C bl := by rw [hC, hbl]; rfl
          have hbg : ∀ k, k < 64 → P.getD (q + k) 0 = bl.getD k 0 := fun k hk => by
            rw [hbl, hq.out]
            simp [List.getD, List.getElem?_take, List.getElem?_drop, hk]
          obtain ⟨w7, hw7⟩ : ∃ w7, w7 = wr.alloc (.cells zb64 24) := ⟨_, rfl⟩
          rw [← hw7]
          have hb7 : Below w5.heap.size w5 w7 := by rw [hw7]; exact hbj.out.alloc hbj.out.size _
          have hr7 : w7.heap[w5.heap.size]? = some (.cells (wv C).toArray 23 (0, 0)) := by rw [hw7]; exact (Below.heap_alloc wr _ _ (lt_of_block' hrj.out)).trans hrj.out
          have ho7 : w7.heap[wr.heap.size]? = some (.cells (bv (cpy bl 0)).toArray 24 (0, 0)) := by
            rw [hw7, heap_alloc_new, zb64_eq]
            simp [cpy]
          have hRz := lt_of_block' hrj.out
          obtain ⟨R, hR⟩ : ∃ R, R = wr.heap.size := ⟨_, rfl⟩
          rw [← hR] at ho7 hRz ⊢
          have HR7 := Lib.hid hr7
          have HO7 := Lib.hid ho7
          have HB7 := Lib.hid hb7
          have HC2 := Lib.hid hC2
          have HCL := Lib.hid hCl
          have HBL := Lib.hid hbl64
          have HBG := Lib.hid hbg
          clear hw7 hr7 ho7 hb7 hC2 hCl hbl64 hbg hbl hC hR hrj hbj
          go_wp2_with fail
          go_loopw [8] (fun i wr => ∃ k : Nat, k ≤ 64 ∧ i = .int .i64 k ∧ Hid (wr.heap[R]? = some (.cells (bv (cpy bl k)).toArray 24 (0, 0))) ∧ Hid (wr.heap[w5.heap.size]? = some (.cells (wv C).toArray 23 (0, 0))) ∧ Hid (Below w5.heap.size w5 wr)) (fun i _ => 64 - (intOf i).toNat)
          case atStart => exact ⟨0, by omega, rfl, HO7, HR7, HB7⟩
          case round =>
            clear HO7 HR7 HB7
            obtain ⟨k, hk, rfl, ho, hr, hb⟩ := hrel
            by_cases hlt : k < 64
            · obtain ⟨p, hp⟩ : ∃ p, p = q + k := ⟨_, rfl⟩
              have hcell := pb_at (HPP.out.below hb.out) (j := p) (by rw [HPN.out]; omega)
              obtain ⟨x, hx⟩ : ∃ x, x = bl.getD k 0 := ⟨_, rfl⟩
              have hgx : P.getD p 0 = x := by rw [hp, HBG.out k hlt, hx]
              rw [hgx] at hcell
              have hdst := bytes_cell ho.out (k := k) (by rw [cpy_length _ _ HBL.out hk]; exact hlt)
              have hfr : wr.frozen? ⟨R, k, none⟩ = false := frozen_of_row wr _ _ _ _ ho.out
              have hsum : (q : Int) + (k : Int) = (p : Int) := by omega
              have hpl2 : p < 64 * N := by omega
              have hp9 : p ≤ 1290000 := by omega
              have HX := Lib.hid hx
              clear hx hgx hp
              go_wp2_with fail
              go_roundw
              case rel =>
                refine ⟨k + 1, by omega, by go_num, ?_, Lib.hid ((Below.heap_setCell wr _ _ _ (by simp; omega)).trans hr.out), Lib.hid (hb.out.setCell (by simp; omega) _)⟩
                rw [cpy_next _ _ HBL.out hlt, ← HX.out]
                exact Lib.hid (bytes_set ho.out)
              case measure => simp [intOf] <;> omega
            · have hk64 : k = 64 := by omega
              have ho2 := ho.out
              rw [hk64, show cpy bl 64 = bl by simp [cpy, List.take_of_length_le (Nat.le_of_eq HBL.out)]] at ho2
              have J1 := Lib.hid (show (Tryd.prog.info? 23).map (·.size) = some (wv C).toArray.size by rw [Tryd.size23]; simp [wv, HCL.out])
              have J2 := Lib.hid (show (Tryd.prog.info? 24).map (·.size) = some (bv bl).toArray.size by rw [Tryd.size24]; simp [bv, HBL.out])
              have hbw := HBW.out.trans (hb.out.mono hbz)
              rw [HBB.out] at hbw
              have hst := step_any C HCL.out bl HBL.out wr (HK.out.below hbw (by have := H1.out; omega)) (by have := hbw.size; have := H1.out; omega)
              obtain ⟨D, hD⟩ : ∃ D, D = stepP C bl := ⟨_, rfl⟩
              have hDl : D.length = 8 := by rw [hD, stepP_length _ _ HCL.out]
              rw [← hD] at hst
              have K1 := Lib.hid (show (Tryd.prog.info? 23).map (·.size) = some (wv D).toArray.size by rw [Tryd.size23]; simp [wv, hDl])
              have K2 := Lib.hid (show (wv C).toArray.size = (wv D).toArray.size by simp [wv, hDl, HCL.out])
              have HD := Lib.hid hD
              have HST := Lib.hid hst
              have HO2 := Lib.hid ho2
              clear hD hst ho2 ho hDl hbw
              go_wp2_with (first
                | refine wpList_load_row rfl 23 (.tmp 5) rfl w5.heap.size rfl 23 (wv C).toArray (0, 0) _ hr.out Tryd.underlying23 rfl J1.out ?_
                | refine wpList_load_row rfl 24 (.tmp 7) rfl R rfl 24 (bv bl).toArray (0, 0) _ HO2.out Tryd.underlying24 rfl J2.out ?_)
              refine HST.out.mono ?_
              rintro e w8 ⟨rfl, hb8⟩
              have HR8 := Lib.hid ((hb8.block w5.heap.size (lt_of_block' hr.out)).trans hr.out)
              have HB8 := Lib.hid (hb.out.trans (hb8.mono hb.out.size))
              clear hb8 HST hr hb HO2
              go_wp2_with (refine wpList_store_row rfl 23 (.tmp 5) (.tmp 59) rfl w5.heap.size (wv D).toArray rfl rfl 23 _ HR8.out K1.out K2.out (wv_one _) ?_)
              go_roundw
              case rel =>
                refine ⟨j + 1, q + 64, by omega, Lib.hid (by rw [hq.out]; omega), by go_num, ?_, Lib.hid (below_setRow HB8.out (Nat.le_refl _) _)⟩
                rw [HC2.out, ← HD.out]
                exact Lib.hid (setRow_heap w8 _ _ _ _ _ HR8.out)
              case measure => simp [intOf] <;> omega
        · obtain rfl : j = N := by omega
          have t : decide ((q : Int) < 64 * (j : Int)) = false := by rw [decide_eq_false_iff_not]; omega
          clear hq1
          obtain ⟨ws3, hws⟩ : ∃ ws3, ws3 = chain P j := ⟨_, rfl⟩
          rw [← hws] at hrj
          have hl3 : ws3.length = 8 := by rw [hws, chain_length]
          obtain ⟨S, hS⟩ : ∃ S, S = sumP l := ⟨_, rfl⟩
          have hS3 : S = outP ws3 := by
            rw [hS, hws, HPE.out, HN.out]
            rfl
          have hbw := HBW.out.trans (hbj.out.mono hbz)
          rw [HBB.out] at hbw
          have hbc : Below w.heap.size w (wr.alloc (.cells #[.slice A l.length c] 27)) := hbw.alloc hbw.size _
          have hm := sum_any _ [l] _ (pbs_one (HP.out.below hbw) 27) (HK.out.below hbc (by have := H1.out; omega)) (HF.out.below hbc H1.out) (Nat.lt_of_lt_of_le H1.out hbc.size) (by rw [flat_one]; omega) (by simp)
          rw [flat_one, ← hS] at hm
          have HM := Lib.hid hm
          have HBC := Lib.hid hbc
          have HS3 := Lib.hid hS3
          have HL3 := Lib.hid hl3
          have hrc := (Below.heap_alloc wr (.cells #[.slice A l.length c] 27) _ (lt_of_block' hrj.out)).trans hrj.out
          have HRC := Lib.hid hrc
          have I30 := Lib.hid (show (Tryd.prog.info? 30).map (·.size) = some ((bv S).toArray.size) by
            rw [Tryd.size30]
            simp [bv, hS3, outP_length])
          have S30 := Lib.hid (show z32.size = (bv S).toArray.size by
            simp only [bv, List.size_toArray, List.length_map, hS3, outP_length]
            rfl)
          clear hm hbc hS3 hl3 hrc hbw hS hws HPP HPN HN HPE
          go_wp2_with fail
          refine HM.out.mono ?_
          rintro e w8 ⟨rfl, hb8⟩
          have hr8 := (hb8.block w5.heap.size (lt_of_block' HRC.out)).trans HRC.out
          have hbw8 := HBC.out.trans (hb8.mono HBC.out.size)
          have HR8 := Lib.hid hr8
          have HB8 := Lib.hid hbw8
          clear hb8 hr8 hbw8 HM HBC HRC t
          go_upto_region 19 with (refine wpList_store_row rfl 30 (.tmp 9) (.tmp 62) rfl w8.heap.size (bv S).toArray rfl rfl 30 z32 (heap_alloc_new w8 _) I30.out S30.out (bv_one _) ?_; rw [World.setRow_alloc_new])
          obtain ⟨w9, hw9⟩ : ∃ w9, w9 = w8.alloc (.cells (bv S).toArray 30) := ⟨_, rfl⟩
          rw [← hw9]
          have hr9 : w9.heap[w5.heap.size]? = some (.cells (wv ws3).toArray 23 (0, 0)) := by rw [hw9]; exact (Below.heap_alloc w8 _ _ (lt_of_block' HR8.out)).trans HR8.out
          have ho9 : w9.heap[w8.heap.size]? = some (.cells (bv S).toArray 30 (0, 0)) := by rw [hw9]; exact heap_alloc_new w8 _
          have hb9 : Below w.heap.size w w9 := by rw [hw9]; exact HB8.out.alloc HB8.out.size _
          have HR9 := Lib.hid hr9
          have HO9 := Lib.hid ho9
          have HB9 := Lib.hid hb9
          clear hw9 hr9 ho9 hb9 HR8 HB8
          go_wp2_with fail
          go_loopw [10] (fun i wr => ∃ k : Nat, k ≤ 32 ∧ i = .int .i64 k ∧ Hid (wr.heap[w8.heap.size]? = some (.cells (bv S).toArray 30 (0, 0))) ∧ Hid (wr.heap[w5.heap.size]? = some (.cells (wv ws3).toArray 23 (0, 0))) ∧ Hid (Below w.heap.size w wr)) (fun i _ => 32 - (intOf i).toNat)
          case atStart => exact ⟨0, by omega, rfl, HO9, HR9, HB9⟩
          case round =>
            clear HO9 HR9 HB9
            obtain ⟨k, hk, rfl, ho, hr, hb⟩ := hrel
            by_cases hlt : k < 32
            · obtain ⟨x, hx⟩ : ∃ x, x = ws3.getD (k / 4) 0 := ⟨_, rfl⟩
              obtain ⟨y, hy⟩ : ∃ y, y = UInt8.ofNat (x.toNat / 2 ^ (24 - 8 * (k % 4))) := ⟨_, rfl⟩
              have hcell : wr.cell? ⟨w5.heap.size, k / 4, none⟩ = some (.int .u32 (iv x)) := by
                rw [cell_of_row wr _ _ _ _ _ hr.out, List.getElem?_toArray]
                have hk4 : k / 4 < ws3.length := by rw [HL3.out]; omega
                rw [hx]
                simp [wv, List.getD, List.getElem?_eq_getElem hk4]
              have hdst := bytes_cell ho.out (k := k) (by rw [HS3.out, outP_length]; exact hlt)
              have hSy : S.getD k 0 = y := by
                rw [HS3.out, hy, hx]
                simp [outP, List.getD, hlt]
              rw [hSy] at hdst
              have hsh : (0 : Int) ≤ 24 - 8 * ((k : Int) % 4) := by omega
              have hob : iv x / 2 ^ (24 - 8 * (k % 4)) % 256 = (y.toNat : Int) := by rw [out_byte, hy]
              clear hx hy hSy
              go_upto_region 22 with (fail)
              go_quiet (fail)
              clear hcell hdst
              go_wp2_with fail
              go_roundw
              case rel => exact ⟨k + 1, by omega, by go_num, ho, hr, Lib.hid (below_drewN hb.out _)⟩
              case measure => simp [intOf] <;> omega
            · obtain rfl : k = 32 := by omega
              have hbf := hb.out
              go_wp2_with fail
              refine (awake_any wr (HK.out.below hbf (by have := H1.out; omega)) (HF.out.below hbf H1.out) (Nat.lt_of_lt_of_le H1.out hbf.size)).mono ?_
              rintro e w6 ⟨rfl, hb6⟩
              have HB6 := Lib.hid (hbf.trans (hb6.mono hbf.size))
              clear hb6 hbf
              go_wp2_with fail
              go_ret
              exact ⟨rfl, HB6.out⟩
    · have t : (((n : Int) % 64) != 56) = true := by rw [bne_iff_ne]; omega
      have hmf : m < fillN l.length := by omega
      go_wp2_with (at_builtin; refine wpList_append_bytes rfl (.tmp 23) (.tmp 24) rfl B (.slice A3 n c3) (.slice (some ⟨wr.heap.size, 0, none⟩) 1 1) (fillX l m) [0] rfl rfl (ho.out.1.alloc _) (pb_byte rfl) (by rw [← hn.out]; simp; omega) (by simp; omega) ?_; intro v4 w4 hown4 hg4)
      have hb4 : Below B w w4 := below_app ho.out.2 hsz ho.out.1 hg4
      rw [fillX_next] at hown4
      obtain ⟨A4, c4, e4, _⟩ := own_pb hown4
      have HO4 := Lib.hid (And.intro hown4 hb4)
      clear hown4 hb4 hg4
      go_roundw
      case rel => exact ⟨m + 1, _, A4, c4, by omega, Lib.hid rfl, by rw [fillX_length]; omega, e4, HO4⟩
      case measure =>
        rw [e4]
        simp only [lenOf, fillX_length]
        omega
end Go.Proofs.YtbnmblhpoaaegaaDoor
