/- HMAC: a key's tag of parts. -/
import Derived.Test.YtaefgieodehceaaDoorM2
namespace Go.Proofs.YtaefgieodehceaaDoor.Sha
set_option maxRecDepth 4000
open Go.RowKit

theorem px_of_pb {w : World} {B o n c H : Nat} {p : List UInt8} (h : Pb w (.slice (some ⟨B, o, none⟩) n c) p) (hB : B ≠ H) : Px w H (.slice (some ⟨B, o, none⟩) n c) p := by
  obtain ⟨A, c', e, hc, hr⟩ := h
  refine ⟨A, c', e, hc, fun hp => ?_⟩
  obtain ⟨b, o', ha, hb, hcell⟩ := hr hp
  injection e with e1 _ _
  rw [ha] at e1
  injection e1 with e1
  injection e1 with e4 e5
  exact ⟨b, o', ha, by omega, hb, hcell⟩
/-- Two parts, in a block of their own. -/
theorem pbs_two {w : World} {v u : Value} {p q : List UInt8} (h : Pb w v p) (k : Pb w u q) (t : TypeId) : Pbs (w.alloc (.cells #[v, u] t)) (.slice (some ⟨w.heap.size, 0, none⟩) 2 2) [p, q] :=
  ⟨_, 2, rfl, by simp, fun _ => ⟨w.heap.size, 0, rfl, by simp, fun j hj => by
    have hb := (Below.refl w.heap.size w).alloc (Nat.le_refl _) (.cells #[v, u] t)
    rcases j with _ | _ | j
    · exact ⟨v, by rw [cell_of_row _ _ _ _ _ _ (heap_alloc_new w _)]; rfl, h.below hb⟩
    · exact ⟨u, by rw [cell_of_row _ _ _ _ _ _ (heap_alloc_new w _)]; rfl, k.below hb⟩
    · exact absurd hj (by simp)⟩⟩
theorem IsK.below {w w' : World} {K : Nat} {bl : List UInt8} (h : IsK w K bl) (hb : Below w.heap.size w w') : IsK w' K bl :=
  ⟨h.1, (hb.block K (lt_of_block' h.2)).trans h.2⟩

set_option linter.unusedSimpArgs false in
set_option maxHeartbeats 2000000 in
set_option maxRecDepth 4000 in
theorem ktag_any (K : Nat) (bl : List UInt8) (v : Value) (ps : List (List UInt8)) (w : World) (hkey : IsK w K bl) (hp : Pbs w v ps) (hk : Kt w) (hf : Ft w) (h1 : 1 < w.heap.size) (hlen : ps.flatten.length ≤ 800000) (hpl : ps.length ≤ 9223372036854775807) :
    Calls Tryd.prog 36 #[.pointer (some ⟨K, 0, none⟩), v] w (SumPost w (sumP (mixP 92 bl ++ sumP (mixP 54 bl ++ ps.flatten)))) := by
  obtain ⟨A, c, rfl, _, _⟩ := id hp
  have h64 := hkey.1
  obtain ⟨T, hT⟩ : ∃ T, T = sumP (mixP 92 bl ++ sumP (mixP 54 bl ++ ps.flatten)) := ⟨_, rfl⟩
  rw [← hT]
  have HT := Lib.hid hT
  have HKEY := Lib.hid hkey
  have H64 := Lib.hid h64
  have HP := Lib.hid hp
  have HK := Lib.hid hk
  have HF := Lib.hid hf
  have H1 := Lib.hid h1
  clear hT hkey h64 hp hk hf h1
  go_enter Tryd.func36, Tryd.ntmps36
  go_upto_region 1 with (fail)
  rw [z32_lit]
  obtain ⟨w1, hw1⟩ : ∃ w1, w1 = w.alloc (.cells z32 57) := ⟨_, rfl⟩
  rw [← hw1]
  have hr1 : w1.heap[w.heap.size]? = some (.cells z32 57 (0, 0)) := by rw [hw1, heap_alloc_new]
  have hb1 : Below w.heap.size w w1 := by rw [hw1]; exact (Below.refl _ _).alloc (Nat.le_refl _) _
  have hz1 : w.heap.size < w1.heap.size := lt_of_block' hr1
  have hnew := new_any w1 (HF.out.below hb1 H1.out)
  have HR1 := Lib.hid hr1
  have HB1 := Lib.hid hb1
  have HNEW := Lib.hid hnew
  clear hr1 hb1 hw1 hnew
  go_wp2_with fail
  refine HNEW.out.mono ?_
  rintro e w2 ⟨rfl, hi2, hb2⟩
  obtain ⟨H, hH⟩ : ∃ H, H = w1.heap.size := ⟨_, rfl⟩
  rw [← hH] at hi2 ⊢
  have hHw : w.heap.size < H := by omega
  have hb12 := HB1.out.trans (hb2.mono HB1.out.size)
  have hr2 := (hb2.block w.heap.size hz1).trans HR1.out
  have hmx := mixed_any K bl 54 w2 (HKEY.out.below hb12)
  have hH2 : H < w2.heap.size := IsHM.lt hi2
  have HI2 := Lib.hid hi2
  have HB2 := Lib.hid hb12
  have HR2 := Lib.hid hr2
  have HMX := Lib.hid hmx
  clear hi2 hb12 hr2 hmx hb2 HNEW HB1 HR1 hH
  go_wp2_with fail
  refine HMX.out.mono ?_
  rintro e w3 ⟨rfl, hp3, hb3⟩
  have hb13 := HB2.out.trans (hb3.mono HB2.out.size)
  have hi3 := IsHM.kept HI2.out (hb3.block H hH2)
  have hr3 := (hb3.block w.heap.size (by omega)).trans HR2.out
  have hH3 : H < w3.heap.size := Nat.lt_of_lt_of_le hH2 hb3.size
  have hba : Below w.heap.size w (w3.alloc (.cells #[.slice (some ⟨w2.heap.size, 0, none⟩) 64 64] 22)) := hb13.alloc hb13.size _
  have hw := write_any H [] _ [mixP 54 bl] _ (IsHM.kept hi3 (Below.heap_alloc w3 (.cells #[.slice (some ⟨w2.heap.size, 0, none⟩) 64 64] 22) _ hH3)) (ps_one (px_of_pb hp3 (by omega)) hH3 22) (HK.out.below hba (by have := H1.out; omega)) (by have := H1.out; omega) (by rw [flat_one, mixP_length, H64.out]; simp) (by simp)
  rw [flat_one, List.nil_append] at hw
  have hra := (Below.heap_alloc w3 (.cells #[.slice (some ⟨w2.heap.size, 0, none⟩) 64 64] 22) _ (lt_of_block' hr3)).trans hr3
  have HW := Lib.hid hw
  have HBA := Lib.hid hba
  have HRA := Lib.hid hra
  clear hw hba hra hr3 hi3 hb13 hb3 hp3 HMX HI2 HR2
  go_wp2_with fail
  refine HW.out.mono ?_
  rintro e w4 ⟨rfl, hi4, hg4⟩
  have hb14 := below_grown HBA.out hg4 (by omega)
  have hr4 := (hg4.block w.heap.size (lt_of_block' HRA.out) (fun e => by injection e with e; omega)).trans HRA.out
  have hw := write_any H (mixP 54 bl) _ ps w4 hi4 (HP.out.ps hb14 (by omega)) (HK.out.below hb14 (by have := H1.out; omega)) (by have := H1.out; omega) (by rw [mixP_length, H64.out]; omega) hpl
  have HW5 := Lib.hid hw
  have HB4 := Lib.hid hb14
  have HR4 := Lib.hid hr4
  clear hw hb14 hr4 hi4 hg4 HW HBA HRA
  go_wp2_with fail
  refine HW5.out.mono ?_
  rintro e w5 ⟨rfl, hi5, hg5⟩
  have hb15 := below_grown HB4.out hg5 (by omega)
  have hr5 := (hg5.block w.heap.size (lt_of_block' HR4.out) (fun e => by injection e with e; omega)).trans HR4.out
  have hlI : (mixP 54 bl ++ ps.flatten).length ≤ 900000 := by rw [List.length_append, mixP_length, H64.out]; omega
  have hm := msum_any H _ w5 hi5 (HK.out.below hb15 (by have := H1.out; omega)) (by have := H1.out; omega) hlI
  obtain ⟨S, hS⟩ : ∃ S, S = sumP (mixP 54 bl ++ ps.flatten) := ⟨_, rfl⟩
  rw [← hS] at hm
  have hSl : S.length = 32 := by rw [hS, sumP_length]
  have I30 := Lib.hid (show (Tryd.prog.info? 57).map (·.size) = some ((bv S).toArray.size) by
    rw [Tryd.size57]
    simp [bv, hSl])
  have S30 := Lib.hid (show z32.size = (bv S).toArray.size by
    simp only [bv, List.size_toArray, List.length_map, hSl]
    rfl)
  have HM := Lib.hid hm
  have HB5 := Lib.hid hb15
  have HR5 := Lib.hid hr5
  have HS := Lib.hid hS
  have HSL := Lib.hid hSl
  clear hm hb15 hr5 hi5 hg5 hS hSl HW5 HB4 HR4 hlI
  go_wp2_with fail
  refine HM.out.mono ?_
  rintro e w6 ⟨rfl, hb6⟩
  have HB6 := Lib.hid (HB5.out.trans (hb6.mono HB5.out.size))
  have HR6 := Lib.hid ((hb6.block w.heap.size (lt_of_block' HR5.out)).trans HR5.out)
  clear hb6 HM HB5 HR5
  go_upto_region 7 with (refine wpList_store_row rfl 57 (.tmp 6) (.tmp 20) rfl w6.heap.size (bv S).toArray rfl rfl 57 z32 (heap_alloc_new w6 _) I30.out S30.out (bv_one _) ?_; rw [World.setRow_alloc_new])
  obtain ⟨w7, hw7⟩ : ∃ w7, w7 = w6.alloc (.cells (bv S).toArray 57) := ⟨_, rfl⟩
  rw [← hw7]
  have hs7 : w7.heap[w6.heap.size]? = some (.cells (bv S).toArray 57 (0, 0)) := by rw [hw7, heap_alloc_new]
  have hr7 : w7.heap[w.heap.size]? = some (.cells z32 57 (0, 0)) := by rw [hw7]; exact (Below.heap_alloc w6 _ _ (lt_of_block' HR6.out)).trans HR6.out
  have hb7 : Below w.heap.size w w7 := by rw [hw7]; exact HB6.out.alloc HB6.out.size _
  clear hw7
  refine wp_region_any (by kernel_rfl) ?_
  change wpAny _ _ _ _ _ _ _ (World.drew _)
  obtain ⟨W0, hW0⟩ : ∃ W0, W0 = w7.drew := ⟨_, rfl⟩
  have HS7 := Lib.hid (show W0.heap[w6.heap.size]? = some (.cells (bv S).toArray 57 (0, 0)) by rw [hW0]; exact hs7)
  have HR7 := Lib.hid (show W0.heap[w.heap.size]? = some (.cells z32 57 (0, 0)) by rw [hW0]; exact hr7)
  have HB7 := Lib.hid (show Below w.heap.size w W0 by rw [hW0]; exact hb7.drew)
  rw [← hW0]
  clear hs7 hr7 hb7 hW0 HR6 HB6
  refine wpAny_take (i := 0) (oi := ?oi0) (v := ?v0) ?hi0 ?hs0 ?hf0 ?hr0 ?hQ0 ?hy0 ?h0
  case hi0 => exact (by simp only [List.getElem?_toArray, List.getElem?_cons_zero]; rfl)
  case hs0 => kernel_rfl
  case hf0 => kernel_rfl
  case hr0 => kernel_rfl
  case hQ0 => exact fun _ _ _ h => h
  case hy0 =>
    refine Or.inl ⟨rfl, ?_⟩
    intro W
    go_simp
    try with_reducible rfl
  try simp only [Act.put, List.setIfInBounds_toArray, List.set_cons_zero, List.set_cons_succ]
  refine wpAny_take (i := 2) (oi := ?oi2) (v := ?v2) ?hi2 ?hs2 ?hf2 ?hr2 ?hQ2 ?hy2 ?h2
  case hi2 => exact (by simp only [List.getElem?_toArray, List.getElem?_cons_succ, List.getElem?_cons_zero]; rfl)
  case hs2 => kernel_rfl
  case hf2 => kernel_rfl
  case hr2 => kernel_rfl
  case hQ2 => exact fun _ _ _ h => h
  case hy2 =>
    refine Or.inl ⟨rfl, ?_⟩
    intro W
    go_simp
    try with_reducible rfl
  try simp only [Act.put, List.setIfInBounds_toArray, List.set_cons_zero, List.set_cons_succ]
  refine wpAny_ready (rs := [1]) (by kernel_rfl) (by simp) ?_
  refine AllReady.cons (o := _) rfl (fun K hK => ?_) AllReady.nil
  go_simp
  refine (mixed_any _ bl 92 W0 (HKEY.out.below HB7.out)).mono ?_
  intro e W1 hp
  obtain ⟨rfl, hp1, hc1⟩ := hp
  have HB8 := Lib.hid (HB7.out.trans (hc1.mono HB7.out.size))
  have HR8 := Lib.hid ((hc1.block w.heap.size (lt_of_block' HR7.out)).trans HR7.out)
  have hs8 := (hc1.block w6.heap.size (lt_of_block' HS7.out)).trans HS7.out
  have hp2 : Pb W1 (.slice (some ⟨w6.heap.size, 0, none⟩) 32 32) S := by
    refine ⟨_, 32, by rw [HSL.out], by rw [HSL.out]; omega, fun _ => ⟨w6.heap.size, 0, rfl, lt_of_block' hs8, fun j u hu => ?_⟩⟩
    rw [cell_of_row _ _ (0 + j) _ _ _ hs8, Nat.zero_add, List.getElem?_toArray, hu]
  have hpp := pbs_two hp1 hp2 22
  have HPP := Lib.hid hpp
  clear hs8 hp1 hp2 hc1 hpp HB7 HR7 HS7
  refine hK _ _ ?_
  clear hK K
  try simp only [Act.put, List.setIfInBounds_toArray, List.set_cons_zero, List.set_cons_succ]
  refine wpAny_ready (rs := [3]) (by kernel_rfl) (by simp) ?_
  refine AllReady.cons (o := _) rfl (fun K hK => ?_) AllReady.nil
  go_simp
  refine hK _ _ ?_
  clear hK K
  try simp only [Act.put, List.setIfInBounds_toArray, List.set_cons_zero, List.set_cons_succ]
  refine wpAny_ready (rs := [4]) (by kernel_rfl) (by simp) ?_
  refine AllReady.cons (o := _) rfl (fun K hK => ?_) AllReady.nil
  go_simp
  have hba : Below w.heap.size w (W1.alloc (.cells #[.slice (some ⟨W0.heap.size, 0, none⟩) 64 64, .slice (some ⟨w6.heap.size, 0, none⟩) 32 32] 22)) := HB8.out.alloc HB8.out.size _
  have hra := (Below.heap_alloc W1 (.cells #[.slice (some ⟨W0.heap.size, 0, none⟩) 64 64, .slice (some ⟨w6.heap.size, 0, none⟩) 32 32] 22) _ (lt_of_block' HR8.out)).trans HR8.out
  have hsm := sum_any _ [mixP 92 bl, S] _ HPP.out (HK.out.below hba (by have := H1.out; omega)) (HF.out.below hba H1.out) (Nat.lt_of_lt_of_le H1.out hba.size) (by simp [mixP_length, H64.out, HSL.out]) (by simp)
  rw [show [mixP 92 bl, S].flatten = mixP 92 bl ++ S by simp, HS.out, ← HT.out] at hsm
  refine hsm.mono ?_
  intro e W2 hp
  obtain ⟨rfl, hc2⟩ := hp
  have HB9 := Lib.hid (hba.trans (hc2.mono hba.size))
  have hr9 := (hc2.block w.heap.size (lt_of_block' hra)).trans hra
  rw [z32_bv] at hr9
  have HR9 := Lib.hid (show W2.heap[w.heap.size]? = some (.cells (bv (List.replicate 32 0) ++ []).toArray 57 (0, 0)) by rw [List.append_nil]; exact hr9)
  have hTl : T.length = 32 := by rw [HT.out, sumP_length]
  have L1 := Lib.hid (show (bv (List.replicate 32 0)).length = (bv T).length by
    simp only [bv, List.length_map, List.length_replicate, hTl])
  have L2 := Lib.hid (show (Tryd.prog.info? 57).map (·.size) = some (bv T).length by
    rw [Tryd.size57]
    simp [bv, hTl])
  have L3 := Lib.hid (show (Tryd.prog.info? 57).map (·.size) = some (bv T).toArray.size by
    rw [Tryd.size57]
    simp [bv, hTl])
  clear hba hra hsm hc2 hr9 hTl HB8 HR8 HPP
  refine hK _ _ ?_
  clear hK K
  try simp only [Act.put, List.setIfInBounds_toArray, List.set_cons_zero, List.set_cons_succ]
  refine wpAny_ready (rs := [5]) (by kernel_rfl) (by simp) ?_
  refine AllReady.cons (o := _) rfl (fun K hK => ?_) AllReady.nil
  refine step_store_front rfl 57 (.tmp 4) (.tmp 25) rfl w.heap.size (bv T) rfl rfl (bv (List.replicate 32 0)) [] 57 HR9.out L1.out L2.out (bv_each T) ?_
  intro w9 hrow9 hg9 hz9
  have hb9 := below_grown HB9.out hg9 (Nat.le_refl _)
  have hr9 := hrow9.out
  rw [List.append_nil] at hr9
  refine hK _ _ ?_
  clear hK K
  try simp only [Act.put, List.setIfInBounds_toArray, List.set_cons_zero, List.set_cons_succ]
  refine wpAny_done (by kernel_rfl) ?_ _
  go_wp2_with fail
  refine bodyPost_ret (v := .agg (bv T).toArray) ?_ rfl ⟨rfl, hb9⟩
  exact results_cell_row Tryd.results36 _ _ w.heap.size 57 _ (0, 0) _ rfl hr9 Tryd.underlying57 rfl L3.out
end Go.Proofs.YtaefgieodehceaaDoor.Sha
