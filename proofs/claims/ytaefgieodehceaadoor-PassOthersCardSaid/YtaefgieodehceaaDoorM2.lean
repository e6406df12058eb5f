/- HMAC: a key is made. -/
import Derived.Test.YtaefgieodehceaaDoorM1
namespace Go.Proofs.YtaefgieodehceaaDoor.Sha
set_option maxRecDepth 4000
open Go.RowKit

theorem blockP_short (key : List UInt8) (h : ¬ 64 < key.length) : blockP key = key ++ List.replicate (64 - key.length) 0 := by
  unfold blockP cpy
  rw [if_neg h, if_neg h, List.take_of_length_le (Nat.le_refl _)]
theorem blockP_long (key : List UInt8) (h : 64 < key.length) : blockP key = sumP key ++ List.replicate (64 - 32) 0 := by
  unfold blockP cpy
  rw [if_pos h, if_pos h, List.take_of_length_le (Nat.le_of_eq (sumP_length _))]
theorem blockP_length (key : List UInt8) : (blockP key).length = 64 := by
  by_cases h : 64 < key.length
  · rw [blockP_long key h, List.length_append, sumP_length, List.length_replicate]
  · rw [blockP_short key h, List.length_append, List.length_replicate]
    omega

theorem splice_block (key : List UInt8) (m : Nat) : splice (bv (List.replicate m 0)) 0 (bv key) = bv (key ++ List.replicate (m - key.length) 0) := by
  simp [splice, bv]
theorem pb_src {w : World} {A : Option Addr} {n c g : Nat} {l : List UInt8} (h : Pb w (.slice A n c) l) : 0 < (bv l).length → (some ⟨g, 0, none⟩ : Option Addr) = some ⟨g, 0, none⟩ ∧ ∃ ad, A = some ad ∧ ∀ j v, (bv l)[j]? = some v → w.cell? (ad.add j) = some v := fun hp => by
  obtain ⟨A', c', e, _, hr⟩ := h
  injection e with e1 _ _
  subst e1
  obtain ⟨b, o, rfl, _, hc⟩ := hr (by simpa [bv] using hp)
  exact ⟨rfl, _, rfl, fun j v hv => by rw [Addr.add_mid]; exact hc j v hv⟩

set_option linter.unusedSimpArgs false in
set_option maxHeartbeats 1000000 in
set_option maxRecDepth 4000 in
theorem make_any (v : Value) (key : List UInt8) (w : World) (hp : Pb w v key) (hk : Kt w) (hf : Ft w) (h1 : 1 < w.heap.size) (hlen : key.length ≤ 900000) :
    Calls Tryd.prog 10 #[v] w fun e w' => e = .returned (.pointer (some ⟨w.heap.size, 0, none⟩)) ∧ IsK w' w.heap.size (blockP key) ∧ Below w.heap.size w w' := by
  obtain ⟨A, c, rfl, _, _⟩ := id hp
  obtain ⟨n, hn⟩ : ∃ n, n = key.length := ⟨_, rfl⟩
  rw [← hn] at hp hlen ⊢
  have HN := Lib.hid hn
  have HP := Lib.hid hp
  have HK := Lib.hid hk
  have HF := Lib.hid hf
  have H1 := Lib.hid h1
  clear hn hp hk hf h1
  go_enter Tryd.func10, Tryd.ntmps10
  go_upto_region 2 with (fail)
  rw [zb64_lit]
  obtain ⟨w1, hw1⟩ : ∃ w1, w1 = w.alloc (.cells zb64 65) := ⟨_, rfl⟩
  rw [← hw1]
  obtain ⟨R, hR⟩ : ∃ R, R = w.heap.size := ⟨_, rfl⟩
  have hr1 : w1.heap[R]? = some (.cells (bv (List.replicate 64 0)).toArray 65 (0, 0)) := by rw [hw1, hR, heap_alloc_new, zb64_eq]
  have hb1 : Below w.heap.size w w1 := by rw [hw1]; exact (Below.refl _ _).alloc (Nat.le_refl _) _
  have hz1 : R < w1.heap.size := lt_of_block' hr1
  rw [← hR]
  have HR1 := Lib.hid hr1
  have HB1 := Lib.hid hb1
  have HRE := Lib.hid hR
  clear hr1 hb1 hw1 hR
  by_cases hbig : 64 < n
  · have t : decide ((n : Int) > 64) = true := by rw [decide_eq_true_iff]; omega
    obtain ⟨S, hS⟩ : ∃ S, S = sumP key := ⟨_, rfl⟩
    have hSl : S.length = 32 := by rw [hS, sumP_length]
    have hba : Below w.heap.size w (w1.alloc (.cells #[.slice A n c] 22)) := HB1.out.alloc HB1.out.size _
    have hm := sum_any _ [key] _ (pbs_one (HP.out.below HB1.out) 22) (HK.out.below hba (by have := H1.out; omega)) (HF.out.below hba H1.out) (Nat.lt_of_lt_of_le H1.out hba.size) (by rw [flat_one, ← HN.out]; omega) (by simp)
    rw [flat_one, ← hS] at hm
    have hr2 := (Below.heap_alloc w1 (.cells #[.slice A n c] 22) _ hz1).trans HR1.out
    have I30 := Lib.hid (show (Tryd.prog.info? 57).map (·.size) = some ((bv S).toArray.size) by
      rw [Tryd.size57]
      simp [bv, hSl])
    have S30 := Lib.hid (show z32.size = (bv S).toArray.size by
      simp only [bv, List.size_toArray, List.length_map, hSl]
      rfl)
    have HM := Lib.hid hm
    have HBA := Lib.hid hba
    have HR2 := Lib.hid hr2
    have HS := Lib.hid hS
    have HSL := Lib.hid hSl
    clear hm hba hr2 hS hSl
    go_wp2_with fail
    refine HM.out.mono ?_
    rintro e w3 ⟨rfl, hb3⟩
    have HR3 := Lib.hid ((hb3.block R (lt_of_block' HR2.out)).trans HR2.out)
    have HB3 := Lib.hid (HBA.out.trans (hb3.mono HBA.out.size))
    clear hb3 HM HBA HR2 t
    go_upto_region 4 with (refine wpList_store_row rfl 57 (.tmp 4) (.tmp 12) rfl w3.heap.size (bv S).toArray rfl rfl 57 z32 (heap_alloc_new w3 _) I30.out S30.out (bv_one _) ?_; rw [World.setRow_alloc_new])
    obtain ⟨w4, hw4⟩ : ∃ w4, w4 = w3.alloc (.cells (bv S).toArray 57) := ⟨_, rfl⟩
    rw [← hw4]
    have hr4 : w4.heap[R]? = some (.cells (bv (List.replicate 64 0)).toArray 65 (0, 0)) := by rw [hw4]; exact (Below.heap_alloc w3 _ _ (lt_of_block' HR3.out)).trans HR3.out
    have hs4 : w4.heap[w3.heap.size]? = some (.cells (bv S).toArray 57 (0, 0)) := by rw [hw4]; exact heap_alloc_new w3 _
    have hb4 : Below w.heap.size w w4 := by rw [hw4]; exact HB3.out.alloc HB3.out.size _
    have hp4 : Pb w4 (.slice (some ⟨w3.heap.size, 0, none⟩) 32 32) S := by
      refine ⟨_, 32, by rw [HSL.out], by rw [HSL.out]; omega, fun _ => ⟨w3.heap.size, 0, rfl, lt_of_block' hs4, fun j u hu => ?_⟩⟩
      rw [cell_of_row _ _ (0 + j) _ _ _ hs4, Nat.zero_add, List.getElem?_toArray, hu]
    have HR4 := Lib.hid hr4
    have HB4 := Lib.hid hb4
    have HP4 := Lib.hid hp4
    clear hr4 hs4 hb4 hp4 hw4 HR3 HB3
    have hl1 : (bv S).length = Nat.min 32 64 := by
      rw [show Nat.min 32 64 = 32 from rfl]
      simp [bv, HSL.out]
    have hl2 : 0 + (bv S).length ≤ (bv (List.replicate 64 0)).length := by simp [bv, HSL.out]
    go_wp2_with (refine wpList_copy_splice (o := ⟨some 19, _, _, _, _, _⟩) rfl (.tmp 17) (.tmp 18) 22 22 rfl 5 Tryd.underlying22 Tryd.size5 _ _ 64 64 32 32 rfl rfl R 0 (bv (List.replicate 64 0)) 65 HR4.out (bv S) hl1 (pb_src HP4.out) hl2 (bv_each S) w.heap.size w HB4.out (by rw [HRE.out]; exact Nat.le_refl _) ?_; intro w5 hrow5 hb5)
    go_ret
    refine ⟨by rw [HRE.out]; rfl, ⟨blockP_length _, ?_⟩, hb5⟩
    rw [← HRE.out, blockP_long _ (by rw [← HN.out]; exact hbig), ← HS.out]
    have := hrow5.out
    rw [splice_block, HSL.out] at this
    exact this
  · have t : decide ((n : Int) > 64) = false := by rw [decide_eq_false_iff_not]; omega
    have HP1 := Lib.hid (HP.out.below HB1.out)
    have hl1 : (bv key).length = Nat.min n 64 := by
      rw [show Nat.min n 64 = n from Nat.min_eq_left (by omega)]
      simp [bv, HN.out]
    have hl2 : 0 + (bv key).length ≤ (bv (List.replicate 64 0)).length := by
      have := HN.out
      simp only [bv, List.length_map, List.length_replicate]
      omega
    go_wp2_with (refine wpList_copy_splice (o := ⟨some 19, _, _, _, _, _⟩) rfl (.tmp 17) (.tmp 18) 22 22 rfl 5 Tryd.underlying22 Tryd.size5 _ _ 64 64 n c rfl rfl R 0 (bv (List.replicate 64 0)) 65 HR1.out (bv key) hl1 (pb_src HP1.out) hl2 (bv_each key) w.heap.size w HB1.out (by rw [HRE.out]; exact Nat.le_refl _) ?_; intro w5 hrow5 hb5)
    go_ret
    refine ⟨by rw [HRE.out]; rfl, ⟨blockP_length _, ?_⟩, hb5⟩
    rw [← HRE.out, blockP_short _ (by rw [← HN.out]; exact hbig)]
    have := hrow5.out
    rw [splice_block] at this
    exact this
end Go.Proofs.YtaefgieodehceaaDoor.Sha
