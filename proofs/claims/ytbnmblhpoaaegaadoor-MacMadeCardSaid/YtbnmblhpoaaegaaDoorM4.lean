/- HMAC: a nil key's tag; the tag of a key's bytes and parts. -/
import Derived.Test.YtbnmblhpoaaegaaDoorM3
namespace Go.Proofs.YtbnmblhpoaaegaaDoor
open Go.RowKit

set_option maxHeartbeats 1000000 in
set_option maxRecDepth 4000 in
theorem ktag_nil (v : Value) (w : World) : Calls Tryd.prog 28 #[.pointer Option.none, v] w (SumPost w (List.replicate 32 0)) := by
  go_enter Tryd.func28, Tryd.ntmps28
  go_upto_region 2 with (fail)
  rw [z32_lit]
  have hb := (Below.refl w.heap.size w).alloc (Nat.le_refl _) (.cells z32 30)
  go_wp2_with (refine wpList_store_row rfl 30 (.tmp 4) (.tmp 9) rfl w.heap.size z32 rfl rfl 30 z32 (heap_alloc_new w _) z32_size rfl z32_one ?_)
  refine bodyPost_ret (v := .agg (bv (List.replicate 32 0)).toArray) ?_ rfl ⟨rfl, below_setRow hb (Nat.le_refl _) _⟩
  rw [← z32_bv]
  exact results_cell_row Tryd.results28 _ _ w.heap.size 30 _ (0, 0) _ rfl (setRow_heap _ _ _ _ _ _ (heap_alloc_new w _)) Tryd.underlying30 rfl z32_size

set_option linter.unusedSimpArgs false in
set_option maxHeartbeats 2000000 in
set_option maxRecDepth 4000 in
theorem mtag_any (u v : Value) (key : List UInt8) (ps : List (List UInt8)) (w : World) (hu : Pb w u key) (hp : Pbs w v ps) (hk : Kt w) (hf : Ft w) (h1 : 1 < w.heap.size) (hkl : key.length ≤ 900000) (hlen : ps.flatten.length ≤ 800000) (hpl : ps.length ≤ 9223372036854775807) :
    Calls Tryd.prog 26 #[u, v] w (SumPost w (tagP key ps.flatten)) := by
  obtain ⟨A, c, rfl, _, _⟩ := id hp
  obtain ⟨A2, n2, c2, rfl⟩ : ∃ A n c, u = .slice A n c := by
    obtain ⟨A, c, e, _⟩ := hu
    exact ⟨A, _, c, e⟩
  obtain ⟨T, hT⟩ : ∃ T, T = tagP key ps.flatten := ⟨_, rfl⟩
  rw [← hT]
  have hTl : T.length = 32 := by rw [hT, tagP_length]
  have I30 := Lib.hid (show (Tryd.prog.info? 30).map (·.size) = some ((bv T).toArray.size) by
    rw [Tryd.size30]
    simp [bv, hTl])
  have S30 := Lib.hid (show z32.size = (bv T).toArray.size by
    simp only [bv, List.size_toArray, List.length_map, hTl]
    rfl)
  have HT := Lib.hid hT
  have HU := Lib.hid hu
  have HP := Lib.hid hp
  have HK := Lib.hid hk
  have HF := Lib.hid hf
  have H1 := Lib.hid h1
  clear hT hTl hu hp hk hf h1
  go_enter Tryd.func26, Tryd.ntmps26
  go_upto_region 1 with (fail)
  rw [z32_lit]
  obtain ⟨w1, hw1⟩ : ∃ w1, w1 = w.alloc (.cells z32 30) := ⟨_, rfl⟩
  rw [← hw1]
  have hr1 : w1.heap[w.heap.size]? = some (.cells z32 30 (0, 0)) := by rw [hw1, heap_alloc_new]
  have hb1 : Below w.heap.size w w1 := by rw [hw1]; exact (Below.refl _ _).alloc (Nat.le_refl _) _
  have hz1 : w.heap.size < w1.heap.size := lt_of_block' hr1
  have hmk := make_any _ key w1 (HU.out.below hb1) (HK.out.below hb1 (by have := H1.out; omega)) (HF.out.below hb1 H1.out) (by have := H1.out; omega) hkl
  have HMK := Lib.hid hmk
  have HR1 := Lib.hid hr1
  have HB1 := Lib.hid hb1
  clear hmk hr1 hb1 hw1
  go_wp2_with fail
  refine HMK.out.mono ?_
  rintro e w2 ⟨rfl, hk2, hb2⟩
  have hb12 := HB1.out.trans (hb2.mono HB1.out.size)
  have ht := ktag_any _ _ _ ps w2 hk2 (HP.out.below hb12) (HK.out.below hb12 (by have := H1.out; omega)) (HF.out.below hb12 H1.out) (Nat.lt_of_lt_of_le H1.out hb12.size) hlen hpl
  rw [show sumP (mixP 92 (blockP key) ++ sumP (mixP 54 (blockP key) ++ ps.flatten)) = T from HT.out.symm] at ht
  have HTG := Lib.hid ht
  have HR2 := Lib.hid ((hb2.block w.heap.size hz1).trans HR1.out)
  have HB2 := Lib.hid hb12
  clear ht hb12 hb2 hk2 HMK HR1 HB1
  go_wp2_with fail
  refine HTG.out.mono ?_
  rintro e w3 ⟨rfl, hb3⟩
  have HR3 := Lib.hid ((hb3.block w.heap.size (lt_of_block' HR2.out)).trans HR2.out)
  have HB3 := Lib.hid (HB2.out.trans (hb3.mono HB2.out.size))
  clear hb3 HTG HR2 HB2
  go_wp2_with (refine wpList_store_row rfl 30 (.tmp 4) (.tmp 8) rfl w.heap.size (bv T).toArray rfl rfl 30 z32 HR3.out I30.out S30.out (bv_one _) ?_)
  refine bodyPost_ret (v := .agg (bv T).toArray) ?_ rfl ⟨rfl, below_setRow HB3.out (Nat.le_refl _) _⟩
  exact results_cell_row Tryd.results26 _ _ w.heap.size 30 _ (0, 0) _ rfl (setRow_heap w3 _ _ _ _ _ HR3.out) Tryd.underlying30 rfl I30.out
end Go.Proofs.YtbnmblhpoaaegaaDoor
