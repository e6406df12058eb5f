/- The reference's Sum: the chain of steps over the bytes, a mark, noughts and their length. -/
import Derived.Test.YtaefgieodehceaaDoorSG
namespace Go.Proofs.YtaefgieodehceaaDoor.Sha
set_option maxRecDepth 4000
open Go.RowKit

def fillX (l : List UInt8) (m : Nat) : List UInt8 := l ++ [128] ++ List.replicate m 0
theorem fillX_length (l : List UInt8) (m : Nat) : (fillX l m).length = l.length + 1 + m := by simp [fillX]; omega
theorem fillX_next (l : List UInt8) (m : Nat) : fillX l m ++ [0] = fillX l (m + 1) := by
  simp [fillX, List.replicate_succ']
theorem padP_fill (l : List UInt8) : padP l = fillX l (fillN l.length) ++ (be8 (8 * l.length)).take 8 := by
  rw [List.take_of_length_le (by simp [be8])]
  rfl
theorem be_byte (n p : Nat) (hp : p < 8) : Value.int .u8 ((n : Int) / 2 ^ (8 * p) % 256) = .int .u8 ((UInt8.ofNat (n / 2 ^ (56 - 8 * (7 - p)))).toNat : Int) := by
  have e : 56 - 8 * (7 - p) = 8 * p := by omega
  rw [e]
  congr 1

theorem pb_part {w : World} {v : Value} {P : List UInt8} {j : Nat} (h : Pb w v P) (hj : 64 * j + 64 ≤ P.length) : ∃ b o c, v = .slice (some ⟨b, o, none⟩) P.length c ∧ P.length ≤ c ∧ Pb w (.slice (some ⟨b, o + 64 * j, none⟩) 64 (c - 64 * j)) ((P.drop (64 * j)).take 64) := by
  obtain ⟨A, c, rfl, hc, hr⟩ := h
  obtain ⟨b, o, rfl, hb, hcell⟩ := hr (by omega)
  have hl : ((P.drop (64 * j)).take 64).length = 64 := by simp; omega
  refine ⟨b, o, c, rfl, hc, _, _, by rw [hl], by rw [hl]; omega, fun _ => ⟨b, o + 64 * j, rfl, hb, fun i u hu => ?_⟩⟩
  rw [Nat.add_assoc]
  apply hcell
  simp only [bv, List.map_take, List.map_drop, List.getElem?_take, List.getElem?_drop] at hu ⊢
  split at hu
  · exact hu
  · cases hu
theorem below_app {B : Nat} {a w w' : World} {o : Obj} {v : Value} {n : Nat} {xs : List Value} (hb : Below B a w) (hs : B ≤ w.heap.size) (ho : w.ownsRow B 5 1 v n xs) (hg : (w.alloc o).grownBy w' v.ownBlock) : Below B a w' :=
  (hb.alloc hs o).grown hg (by simp; omega) (fun k hk => (ho.lt k hk).1)

set_option linter.unusedSimpArgs false in
set_option maxHeartbeats 4000000 in
set_option maxRecDepth 4000 in
theorem rsum_any (v : Value) (l : List UInt8) (w : World) (hp : Pb w v l) (hlen : l.length ≤ 900000) :
    Calls Tryd.prog 31 #[v] w (SumPost w (sumP l)) := by
  obtain ⟨A, c, rfl, _, _⟩ := id hp
  have HP := Lib.hid hp
  clear hp
  go_enter Tryd.func31, Tryd.ntmps31
  go_upto_region 1 with (fail)
  rw [z32_lit]
  obtain ⟨w1, hw1⟩ : ∃ w1, w1 = w.alloc (.cells z32 57) := ⟨_, rfl⟩
  rw [← hw1]
  have hb1 : Below w.heap.size w w1 := by rw [hw1]; exact (Below.refl _ _).alloc (Nat.le_refl _) _
  have hr1 : w1.heap[w.heap.size]? = some (.cells z32 57 (0, 0)) := by rw [hw1]; exact heap_alloc_new w _
  have hba : Below w1.heap.size w1 (w1.alloc (.cells #[] 5)) := (Below.refl _ _).alloc (Nat.le_refl _) _
  have ho0 : (w1.alloc (.cells #[] 5)).ownsRow w1.heap.size 5 1 (.slice (some ⟨w1.heap.size, 0, none⟩) 0 0) ([] : List UInt8).length (bv []) := World.ownsRow_lit w1 #[] 0 (Nat.le_refl _) (by unfold maxLen; omega) rfl
  have hpa := (HP.out.below hb1).below hba
  have HB1 := Lib.hid hb1
  have HR1 := Lib.hid hr1
  have HBA := Lib.hid hba
  have HO0 := Lib.hid ho0
  have HPA := Lib.hid hpa
  clear hb1 hr1 hba ho0 hpa hw1
  go_wp2_with (first
    | (at_builtin; refine wpList_append_bytes rfl (.tmp 10) (.tmp 11) rfl w1.heap.size _ (.slice A l.length c) [] l rfl rfl HO0.out HPA.out (by simp; omega) HBA.out.size ?_; intro v2 w2 hown2 hg2; have HW2 : Hid (w2.ownsRow w1.heap.size 5 1 v2 l.length (bv l) ∧ Below w1.heap.size w1 w2) := ⟨hown2, HBA.out.grown hg2 HBA.out.size (fun k hk => (HO0.out.lt k hk).1)⟩; clear hown2 hg2)
    | (at_builtin; refine wpList_append_bytes rfl (.tmp 12) (.tmp 13) rfl w1.heap.size _ (.slice (some ⟨w2.heap.size, 0, none⟩) 1 1) l [128] rfl rfl (HW2.out.1.alloc _) (pb_byte rfl) (by simp; omega) (Nat.le_trans HW2.out.2.size (by simp)) ?_; intro v3 w3 hown3 hg3; have HW3 : Hid (w3.ownsRow w1.heap.size 5 1 v3 (fillX l 0).length (bv (fillX l 0)) ∧ Below w1.heap.size w1 w3) := ⟨by simpa [fillX] using hown3, (HW2.out.2.alloc HW2.out.2.size _).grown hg3 (Nat.le_trans HW2.out.2.size (by simp)) (fun k hk => (HW2.out.1.lt k hk).1)⟩; clear hown3 hg3))
  clear HO0 HPA HBA HW2
  obtain ⟨B, hB⟩ : ∃ B, B = w1.heap.size := ⟨_, rfl⟩
  rw [← hB] at HW3
  have HBB := Lib.hid hB
  clear hB
  go_loopw [3] (fun u wr => ∃ (m n : Nat) (A3 : Option Addr) (c3 : Nat), m ≤ fillN l.length ∧ Hid (n = (fillX l m).length) ∧ n ≤ 950000 ∧ u = .slice A3 n c3 ∧ Hid (wr.ownsRow B 5 1 u (fillX l m).length (bv (fillX l m)) ∧ Below B w1 wr)) (fun u _ => l.length + 200 - lenOf u)
  case atStart =>
    obtain ⟨A3, c3, e, _⟩ := own_pb HW3.out.1
    exact ⟨0, (fillX l 0).length, A3, c3, by omega, Lib.hid rfl, by rw [fillX_length]; omega, e, HW3⟩
  case round =>
    clear HW3
    obtain ⟨m, n, A3, c3, hm, hn, hn9, rfl, ho⟩ := hrel
    have hn1 : n = l.length + 1 + m := by rw [hn.out, fillX_length]
    have hfl : fillN l.length = (119 - l.length % 64) % 64 := rfl
    have hsz : B ≤ wr.heap.size := by rw [HBB.out]; exact ho.out.2.size
    by_cases h56 : n % 64 = 56
    · have hmf : m = fillN l.length := by omega
      have t : (((n : Int) % 64) != 56) = false := by rw [bne_eq_false_iff_eq]; omega
      rw [hmf] at ho hn
      obtain ⟨X, hX⟩ : ∃ X, X = fillX l (fillN l.length) := ⟨_, rfl⟩
      rw [← hX] at ho hn
      have HX := Lib.hid hX
      clear hX hn1 hfl hmf hm h56
      go_wp2_with fail
      go_loopw [3, 5] (fun u i wr => ∃ (q : Nat) (A5 : Option Addr) (n5 c5 : Nat), q ≤ 8 ∧ i = .int .i64 ((q : Int) - 1) ∧ u = .slice A5 n5 c5 ∧ Hid (wr.ownsRow B 5 1 u (X ++ (be8 (8 * l.length)).take (8 - q)).length (bv (X ++ (be8 (8 * l.length)).take (8 - q))) ∧ Below B w1 wr)) (fun _ i _ => (intOf i + 1).toNat)
      case atStart => exact ⟨8, A3, n, c3, by omega, by go_num, rfl, by simpa using ho⟩
      case round =>
        clear ho hsz t
        obtain ⟨q, A5, n5, c5, hq, hi5, rfl, ho⟩ := hrel
        have hsz : B ≤ wr.heap.size := by rw [HBB.out]; exact ho.out.2.size
        rcases q with _ | p
        · subst hi5
          go_wp2_with fail
          refine (first_any wr).mono ?_
          rintro e w5 ⟨rfl, hb5⟩
          obtain ⟨P, hP⟩ : ∃ P, P = padP l := ⟨_, rfl⟩
          have hXP : X ++ (be8 (8 * l.length)).take (8 - 0) = P := by rw [hP, padP_fill, HX.out]
          rw [hXP] at ho
          obtain ⟨N, hN⟩ : ∃ N, N = (l.length + 72) / 64 := ⟨_, rfl⟩
          have hPN : P.length = 64 * N := by rw [hP, padP_length, hN]
          have hNs : N ≤ 20000 := by omega
          obtain ⟨F, hF⟩ : ∃ F, F = fw := ⟨_, rfl⟩
          rw [← hF]
          have hpb := (own_pb ho.out.1).below hb5
          obtain ⟨b5, o5, c6, e6, hc6, _⟩ := pb_part (j := 0) hpb (by omega)
          injection e6 with e7 e8 e9
          subst e7 e9
          rw [hPN] at e8 hc6
          subst e8
          have I23 := Lib.hid (show (Tryd.prog.info? 92).map (·.size) = some (wv F).toArray.size by rw [Tryd.size92, hF]; rfl)
          have S23 := Lib.hid (show z8.size = (wv F).toArray.size by rw [hF]; rfl)
          have hbw : Below B w1 w5 := ho.out.2.trans (hb5.mono hsz)
          have hbz : B ≤ w5.heap.size := Nat.le_trans hsz hb5.size
          have HPP := Lib.hid hpb
          have HBW := Lib.hid hbw
          have HPN := Lib.hid hPN
          have HPE := Lib.hid hP
          have HN := Lib.hid hN
          have HF := Lib.hid hF
          clear hpb hbw hPN hP hN hF hb5 ho hXP
          go_upto_region 10 with (first
            | (refine wpList_store_row rfl 92 (.tmp 6) (.tmp 39) rfl w5.heap.size (wv F).toArray rfl rfl 92 _ (heap_alloc_new w5 _) I23.out S23.out (wv_one _) ?_; rw [World.setRow_alloc_new]))
          obtain ⟨w6, hw6⟩ : ∃ w6, w6 = w5.alloc (.cells (wv F).toArray 92) := ⟨_, rfl⟩
          rw [← hw6]
          have hr6 : w6.heap[w5.heap.size]? = some (.cells (wv (chain P 0) ++ []).toArray 92 (0, 0)) := by
            rw [hw6, heap_alloc_new, List.append_nil, HF.out]
            rfl
          have hb6 : Below w5.heap.size w5 w6 := by rw [hw6]; exact (Below.refl _ _).alloc (Nat.le_refl _) _
          have HR6 := Lib.hid hr6
          have HB6 := Lib.hid hb6
          clear hr6 hb6 hw6
          go_wp2_with fail
          go_loopw [7] (fun i wr => ∃ j q : Nat, j ≤ N ∧ Hid (q = 64 * j) ∧ i = .int .i64 q ∧ Hid (wr.heap[w5.heap.size]? = some (.cells (wv (chain P j) ++ []).toArray 92 (0, 0))) ∧ Hid (Below w5.heap.size w5 wr)) (fun i _ => 64 * N - (intOf i).toNat)
          case atStart => exact ⟨0, 0, by omega, Lib.hid rfl, rfl, HR6, HB6⟩
          case round =>
            clear HR6 HB6
            obtain ⟨j, q, hj, hq, rfl, hrj, hbj⟩ := hrel
            have hq1 := hq.out
            by_cases hjn : j < N
            · have hq2 : q + 64 ≤ 64 * N := by omega
              have hq3 : q ≤ 1280000 := by omega
              have hqc : q + 64 ≤ c5 := by omega
              have t : decide ((q : Int) < 64 * (N : Int)) = true := by rw [decide_eq_true_iff]; omega
              have hw64 : IntKind.i64.wrap ((q : Int) + 64) = (q : Int) + 64 := by rw [IntKind.wrap_i64]; omega
              have hs1 : (0 ≤ (q : Int) + 64 ∧ (q : Int) + 64 ≤ (c5 : Int)) := by omega
              have hs2 : (0 ≤ (q : Int) ∧ (q : Int) ≤ max ((q : Int) + 64) 0) := by omega
              have hs3 : ((q : Int) + 64).toNat = q + 64 := by omega
              have hs4 : ¬ c5 = q := by omega
              have hs5 : q + 64 - q = 64 := by omega
              clear hq1
              go_upto_region 13 with (fail)
              obtain ⟨C, hC⟩ : ∃ C, C = chain P j := ⟨_, rfl⟩
              rw [← hC] at hrj
              have hCl : C.length = 8 := by rw [hC, chain_length]
              obtain ⟨bl, hbl⟩ : ∃ bl, bl = (P.drop (64 * j)).take 64 := ⟨_, rfl⟩
              have hbl64 : bl.length = 64 := by rw [hbl, List.length_take, List.length_drop, HPN.out]; omega
              have hC2 : chain P (j + 1) = stepP C bl := by rw [hC, hbl]; rfl
              have J1 := Lib.hid (show (Tryd.prog.info? 92).map (·.size) = some (wv C).length by rw [Tryd.size92]; simp [wv, hCl])
              obtain ⟨W0, hW0⟩ : ∃ W0, W0 = wr.drew := ⟨_, rfl⟩
              have hr0 : W0.heap[w5.heap.size]? = some (.cells (wv C ++ []).toArray 92 (0, 0)) := by rw [hW0]; exact hrj.out
              have hb0 : Below w5.heap.size w5 W0 := by rw [hW0]; exact hbj.out.drew
              obtain ⟨_, _, _, ep, _, hpp⟩ := pb_part (j := j) (HPP.out.below hb0) (by rw [HPN.out]; omega)
              injection ep with ep1 _ ep3
              injection ep1 with ep1
              injection ep1 with ep4 ep5
              subst ep3 ep4 ep5
              rw [← hbl, ← hq.out] at hpp
              have hra : W0.rangeAt w5.heap.size 0 (wv C) := fun j u hu => by
                rw [cell_of_row W0 _ (0 + j) _ _ _ hr0, Nat.zero_add, List.append_nil, List.getElem?_toArray, hu]
              have hsp := rstep_any C hCl _ bl hbl64 W0 hpp
              have HRA0 := Lib.hid hra
              have HR0 := Lib.hid hr0
              have HB0 := Lib.hid hb0
              have HSP0 := Lib.hid hsp
              have HC2 := Lib.hid hC2
              have SLEN := Lib.hid (show (wv C).length = (wv (stepP C bl)).length by simp [wv, hCl, stepP_length _ _ hCl])
              have SINF := Lib.hid (show (Tryd.prog.info? 92).map (·.size) = some (wv (stepP C bl)).length by rw [Tryd.size92]; simp [wv, stepP_length _ _ hCl])
              have SONE := Lib.hid (show ∀ v ∈ wv (stepP C bl), v.oneCell' = true by
                intro v hv
                simp only [wv, List.mem_map] at hv
                obtain ⟨_, _, rfl⟩ := hv
                rfl)
              refine wp_region_any (by kernel_rfl) ?_
              change wpAny _ _ _ _ _ _ _ (World.drew _)
              rw [← hW0]
              clear hr0 hb0 hpp hra hsp hC2 hbl hC hW0 hrj hbj hCl hbl64
              refine wpAny_take (i := 1) (oi := ?oi1) (v := ?v1) ?hi1 ?hs1 ?hf1 ?hr1 ?hQ1 ?hy1 ?h1
              case hi1 => exact (by simp only [List.getElem?_toArray, List.getElem?_cons_succ, List.getElem?_cons_zero]; rfl)
              case hs1 => kernel_rfl
              case hf1 => kernel_rfl
              case hr1 => kernel_rfl
              case hQ1 => exact fun _ _ _ h => h
              case hy1 =>
                refine Or.inl ⟨rfl, ?_⟩
                intro W
                go_simp
                try with_reducible rfl
              try simp only [Act.put, List.setIfInBounds_toArray, List.set_cons_zero, List.set_cons_succ]
              refine wpAny_take (i := 2) (oi := ?oi2) (v := ?v2) ?hi2 ?hs2 ?hf2 ?hr2 ?hQ2 ?hy2 ?h2
              case hi2 => exact (by simp only [List.getElem?_toArray, List.getElem?_cons_succ, List.getElem?_cons_zero]; rfl)
              case hs2 => kernel_rfl
              case hf2 => kernel_rfl
              case hr2 => kernel_rfl
              case hQ2 => exact fun _ _ _ h => h
              case hy2 =>
                refine Or.inl ⟨rfl, ?_⟩
                intro W
                go_simp
                try with_reducible rfl
              try simp only [Act.put, List.setIfInBounds_toArray, List.set_cons_zero, List.set_cons_succ]
              refine wpAny_take (i := 3) (oi := ?oi3) (v := ?v3) ?hi3 ?hs3 ?hf3 ?hr3 ?hQ3 ?hy3 ?h3
              case hi3 => exact (by simp only [List.getElem?_toArray, List.getElem?_cons_succ, List.getElem?_cons_zero]; rfl)
              case hs3 => kernel_rfl
              case hf3 => kernel_rfl
              case hr3 => kernel_rfl
              case hQ3 => exact fun _ _ _ h => h
              case hy3 =>
                refine Or.inl ⟨rfl, ?_⟩
                intro W
                go_simp
                try with_reducible rfl
              try simp only [Act.put, List.setIfInBounds_toArray, List.set_cons_zero, List.set_cons_succ]
              refine wpAny_take (i := 4) (oi := ?oi4) (v := ?v4) ?hi4 ?hs4 ?hf4 ?hr4 ?hQ4 ?hy4 ?h4
              case hi4 => exact (by simp only [List.getElem?_toArray, List.getElem?_cons_succ, List.getElem?_cons_zero]; rfl)
              case hs4 => kernel_rfl
              case hf4 => kernel_rfl
              case hr4 => kernel_rfl
              case hQ4 => exact fun _ _ _ h => h
              case hy4 =>
                refine Or.inl ⟨rfl, ?_⟩
                intro W
                go_simp
                try with_reducible rfl
              try simp only [Act.put, List.setIfInBounds_toArray, List.set_cons_zero, List.set_cons_succ]
              refine wpAny_take (i := 5) (oi := ?oi5) (v := .slice (some ⟨b5, o5 + q, none⟩) 64 (c5 - q)) ?hi5 ?hs5 ?hf5 ?hr5 ?hQ5 ?hy5 ?h5
              case hi5 => exact (by simp only [List.getElem?_toArray, List.getElem?_cons_succ, List.getElem?_cons_zero]; rfl)
              case hs5 => kernel_rfl
              case hf5 => kernel_rfl
              case hr5 => kernel_rfl
              case hQ5 => exact fun _ _ _ h => h
              case hy5 =>
                refine Or.inl ⟨rfl, ?_⟩
                intro W
                go_simp
                try with_reducible rfl
              try simp only [Act.put, List.setIfInBounds_toArray, List.set_cons_zero, List.set_cons_succ]
              refine wpAny_ready (rs := [0]) (by kernel_rfl) (by simp) ?_
              refine AllReady.cons (o := _) rfl (fun K hK => ?_) AllReady.nil
              refine step_load_mid rfl 92 (.tmp 6) rfl w5.heap.size 0 rfl (wv C) _ HRA0.out Tryd.underlying92 rfl J1.out ?_
              refine hK _ _ ?_
              clear hK K
              try simp only [Act.put, List.setIfInBounds_toArray, List.set_cons_zero, List.set_cons_succ]
              refine wpAny_ready (rs := [6]) (by kernel_rfl) (by simp) ?_
              refine AllReady.cons (o := _) rfl (fun K hK => ?_) AllReady.nil
              go_simp
              refine HSP0.out.mono ?_
              intro e W1 hp
              obtain ⟨rfl, hb4⟩ := hp
              have hrow4 := (hb4.block w5.heap.size (lt_of_block' HR0.out)).trans HR0.out
              have HR4 := Lib.hid hrow4
              have HB4 := Lib.hid (HB0.out.trans (hb4.mono HB0.out.size))
              clear hrow4 hb4
              refine hK _ _ ?_
              clear hK K
              try simp only [Act.put, List.setIfInBounds_toArray, List.set_cons_zero, List.set_cons_succ]
              refine wpAny_ready (rs := [7]) (by kernel_rfl) (by simp) ?_
              refine AllReady.cons (o := _) rfl (fun K hK => ?_) AllReady.nil
              refine step_store_front rfl 92 (.tmp 6) (.tmp 52) rfl w5.heap.size (wv (stepP C bl)) rfl rfl (wv C) [] 92 HR4.out SLEN.out SINF.out SONE.out ?_
              intro w7 hrow7 hg7 hz7
              have HB7 := Lib.hid (below_grown HB4.out hg7 (Nat.le_refl _))
              rw [← HC2.out] at hrow7
              clear hg7 hz7 HB4 HR4
              refine hK _ _ ?_
              clear hK K
              try simp only [Act.put, List.setIfInBounds_toArray, List.set_cons_zero, List.set_cons_succ]
              refine wpAny_done (by kernel_rfl) ?_ _
              go_wp2_with fail
              go_roundw
              case rel =>
                rw [List.append_nil] at hrow7
                exact ⟨j + 1, by omega, q + 64, Lib.hid (by rw [hq.out]; omega), by omega, hrow7⟩
              case measure => simp [intOf] <;> omega
            · obtain rfl : j = N := by omega
              have t : decide ((q : Int) < 64 * (j : Int)) = false := by rw [decide_eq_false_iff_not]; omega
              clear hq1
              rw [List.append_nil] at hrj
              obtain ⟨ws3, hws⟩ : ∃ ws3, ws3 = chain P j := ⟨_, rfl⟩
              rw [← hws] at hrj
              have hl3 : ws3.length = 8 := by rw [hws, chain_length]
              obtain ⟨S, hS⟩ : ∃ S, S = sumP l := ⟨_, rfl⟩
              rw [← hS]
              have hS3 : S = outP ws3 := by
                rw [hS, hws, HPE.out, HN.out]
                rfl
              have HS3 := Lib.hid hS3
              have HSE := Lib.hid hS
              have HL3 := Lib.hid hl3
              clear hws hS hS3 hl3 HPP HPN HN HF HPE
              go_upto_region 15 with (fail)
              clear t
              rw [z32_lit]
              obtain ⟨w8, hw8⟩ : ∃ w8, w8 = wr.alloc (.cells z32 57) := ⟨_, rfl⟩
              rw [← hw8]
              have hb8 : Below wr.heap.size wr w8 := by rw [hw8]; exact (Below.refl _ _).alloc (Nat.le_refl _) _
              have hr8 := (hb8.block w5.heap.size (lt_of_block' hrj.out)).trans hrj.out
              have hout8 : w8.heap[wr.heap.size]? = some (.cells (bv (outAt ws3 0)).toArray 57 (0, 0)) := by
                rw [hw8, heap_alloc_new, z32_bv]
                simp [outAt]
              have hz5 := lt_of_block' hrj.out
              have hz1 : w.heap.size < B := by rw [HBB.out]; exact lt_of_block' HR1.out
              obtain ⟨R, hR⟩ : ∃ R, R = wr.heap.size := ⟨_, rfl⟩
              rw [← hR] at hout8 hz5 ⊢
              have hbB : Below B w1 w8 := (HBW.out.trans (hbj.out.mono hbz)).trans (hb8.mono (Nat.le_trans hbz (by omega)))
              have hres8 := (hbB.block w.heap.size hz1).trans HR1.out
              have hbA : Below w.heap.size w w8 := HB1.out.trans (hbB.mono (by omega))
              have HR8 := Lib.hid hr8
              have HOUT8 := Lib.hid hout8
              have HRES8 := Lib.hid hres8
              clear hw8 hb8 hr8 hout8 hres8 hrj hbj hbB hR
              go_wp2_with fail
              go_loopw [9] (fun v wr => ∃ k : Nat, k ≤ 32 ∧ v = .int .i64 k ∧ Hid (wr.heap[R]? = some (.cells (bv (outAt ws3 k)).toArray 57 (0, 0))) ∧
                  Hid (wr.heap[w5.heap.size]? = some (.cells (wv ws3).toArray 92 (0, 0))) ∧ Hid (wr.heap[w.heap.size]? = some (.cells z32 57 (0, 0))) ∧ Below w.heap.size w wr) (fun v _ => 32 - (intOf v).toNat)
              case atStart => exact ⟨0, by omega, rfl, HOUT8, HR8, HRES8, hbA⟩
              case round =>
                clear HOUT8 HR8 HRES8 hbA
                obtain ⟨k, hk, rfl, ho, hr, hs, hb⟩ := hrel
                by_cases hlt : k < 32
                · obtain ⟨x, hx⟩ : ∃ x, x = ws3.getD (k / 4) 0 := ⟨_, rfl⟩
                  have hcell : wr.cell? ⟨w5.heap.size, k / 4, none⟩ = some (.int .u32 (iv x)) := by
                    rw [cell_of_row wr _ _ _ _ _ hr.out, List.getElem?_toArray]
                    have hk4 : k / 4 < ws3.length := by rw [HL3.out]; omega
                    rw [hx]
                    simp [wv, List.getD, List.getElem?_eq_getElem hk4]
                  have hdst := bytes_cell ho.out (k := k) (by rw [outAt_length _ _ hk]; exact hlt)
                  have hfr : wr.frozen? ⟨R, k, none⟩ = false := frozen_of_row wr _ _ _ _ ho.out
                  have hsh : (0 : Int) ≤ 24 - 8 * ((k : Int) % 4) := by omega
                  have HX := Lib.hid hx
                  clear hx
                  go_wp2_with fail
                  rw [out_byte]
                  go_roundw
                  case rel =>
                    refine ⟨k + 1, by omega, by go_num, ?_, Lib.hid ((Below.heap_setCell wr _ _ _ (by simp; omega)).trans hr.out), Lib.hid ((Below.heap_setCell wr _ _ _ (by simp; omega)).trans hs.out), hb.setCell (by simp; omega) _⟩
                    rw [outAt_next _ _ hlt, ← HX.out]
                    exact Lib.hid (bytes_set ho.out)
                  case measure => simp [intOf] <;> omega
                · obtain rfl : k = 32 := by omega
                  have ho2 := ho.out
                  rw [show outAt ws3 32 = S by rw [HS3.out]; simp [outAt, List.take_of_length_le (Nat.le_of_eq (outP_length ws3))]] at ho2
                  have hSl : S.length = 32 := by rw [HS3.out, outP_length]
                  have I30 := Lib.hid (show (Tryd.prog.info? 57).map (·.size) = some ((bv S).toArray.size) by
                    rw [Tryd.size57]
                    simp [bv, hSl])
                  have S30 := Lib.hid (show z32.size = (bv S).toArray.size by
                    simp only [bv, List.size_toArray, List.length_map, hSl]
                    rfl)
                  have HO2 := Lib.hid ho2
                  clear ho ho2 hSl hlt hk
                  go_wp2_with (first
                    | refine wpList_load_row rfl 57 (.tmp 8) rfl R rfl 57 _ (0, 0) _ HO2.out Tryd.underlying57 rfl I30.out ?_
                    | refine wpList_store_row rfl 57 (.tmp 2) (.tmp 70) rfl w.heap.size _ rfl rfl 57 _ hs.out I30.out S30.out (bv_one _) ?_)
                  refine bodyPost_ret (v := .agg (bv S).toArray) ?_ rfl ⟨by rw [HSE.out], below_setRow hb (Nat.le_refl _) _⟩
                  exact results_cell_row Tryd.results31 _ _ w.heap.size 57 _ (0, 0) _ rfl (setRow_heap wr _ _ _ _ _ hs.out) Tryd.underlying57 rfl I30.out
        · have e9 : (((p + 1 : Nat) : Int) - 1) = p := by omega
          rw [e9] at hi5
          subst hi5
          clear e9
          obtain ⟨Y, hY⟩ : ∃ Y, Y = X ++ (be8 (8 * l.length)).take (8 - (p + 1)) := ⟨_, rfl⟩
          rw [← hY] at ho
          have hYl : Y.length ≤ 960000 := by
            rw [hY, List.length_append, List.length_take, ← hn.out]
            omega
          have HY := Lib.hid hY
          clear hY
          have hby := be_byte (8 * l.length) p (by omega)
          have hpb := fun (w : World) => pb_byte (w := w) (c := UInt8.ofNat (8 * l.length / 2 ^ (56 - 8 * (7 - p)))) (v := .int .u8 (8 * (l.length : Int) / 2 ^ (8 * p) % 256)) (by rw [← hby]; rfl)
          have HPB := Lib.hid hpb
          clear hpb hby
          go_wp2_with (at_builtin; refine wpList_append_bytes rfl (.tmp 30) (.tmp 37) rfl B (.slice A5 n5 c5) (.slice (some ⟨wr.heap.size, 0, none⟩) 1 1) Y [UInt8.ofNat (8 * l.length / 2 ^ (56 - 8 * (7 - p)))] rfl rfl (ho.out.1.alloc _) (HPB.out wr) (by simp; omega) (by simp; omega) ?_; intro v6 w6 hown6 hg6)
          have hb6 : Below B w1 w6 := below_app ho.out.2 hsz ho.out.1 hg6
          have hYn : Y ++ [UInt8.ofNat (8 * l.length / 2 ^ (56 - 8 * (7 - p)))] = X ++ (be8 (8 * l.length)).take (8 - p) := by
            rw [HY.out, List.append_assoc, show 8 - (p + 1) = 7 - p by omega, ← be8_get _ _ (by omega), show 7 - p + 1 = 8 - p by omega]
          rw [hYn] at hown6
          obtain ⟨A6, n6, c6, e6⟩ := own_form hown6
          have HO6 := Lib.hid (And.intro hown6 hb6)
          clear hown6 hb6 hg6
          go_roundw
          case rel => exact ⟨p, A6, n6, c6, by omega, by go_num, e6, HO6⟩
          case measure => simp [intOf] <;> omega
    · have t : (((n : Int) % 64) != 56) = true := by rw [bne_iff_ne]; omega
      have hmf : m < fillN l.length := by omega
      go_wp2_with (at_builtin; refine wpList_append_bytes rfl (.tmp 19) (.tmp 20) rfl B (.slice A3 n c3) (.slice (some ⟨wr.heap.size, 0, none⟩) 1 1) (fillX l m) [0] rfl rfl (ho.out.1.alloc _) (pb_byte rfl) (by rw [← hn.out]; simp; omega) (by simp; omega) ?_; intro v4 w4 hown4 hg4)
      have hb4 : Below B w1 w4 := below_app ho.out.2 hsz ho.out.1 hg4
      rw [fillX_next] at hown4
      obtain ⟨A4, c4, e4, _⟩ := own_pb hown4
      have HO4 := Lib.hid (And.intro hown4 hb4)
      clear hown4 hb4 hg4
      go_roundw
      case rel => exact ⟨m + 1, _, A4, c4, by omega, Lib.hid rfl, by rw [fillX_length]; omega, e4, HO4⟩
      case measure =>
        rw [e4]
        simp only [lenOf, fillX_length]
        omega
end Go.Proofs.YtaefgieodehceaaDoor.Sha
