/- SHA-256: what the chapter's example says; the document's own turn, words, first words, Step. -/
import Derived.Test.YtbnmblhpoaaegaaDoorS8
import Derived.Laws.StructEq
import Derived.Lib.SlBytesConst
namespace Go.Proofs.YtbnmblhpoaaegaaDoor
open Go.RowKit

theorem abc_get : ∀ (j : Nat) (x : UInt8), [(186 : UInt8), 120, 22, 191][j]? = some x → (bv (sumP [97, 98, 99])).toArray[j]? = some (Value.int .u8 (x.toNat : Int)) := fun j x hx => by
  have hj : j < 4 := (List.getElem?_eq_some_iff.1 hx).1
  rw [← abc, List.getElem?_take, if_pos hj] at hx
  rw [List.getElem?_toArray]
  simp [bv, hx]

set_option maxHeartbeats 1000000 in
set_option maxRecDepth 4000 in
theorem awake_any (w : World) (hk : Kt w) (hf : Ft w) (h1 : 1 < w.heap.size) : Calls Tryd.prog 16 #[] w fun e w' => e = .returned (.bool true) ∧ Below w.heap.size w w' := by
  have hb1 := (Below.refl w.heap.size w).alloc (Nat.le_refl _) (.cells #[.int .u8 97, .int .u8 98, .int .u8 99] 5 (3, 4))
  have hpb : Pb (w.alloc (.cells #[.int .u8 97, .int .u8 98, .int .u8 99] 5 (3, 4))) (.slice (some ⟨w.heap.size, 0, none⟩) 3 3) [97, 98, 99] :=
    ⟨_, 3, rfl, by simp, fun _ => ⟨w.heap.size, 0, rfl, by simp, fun j u hu => by
      rw [cell_of_row _ _ _ _ _ _ (heap_alloc_new w _), Nat.zero_add, ← hu]
      simp [bv]⟩⟩
  have hps := pbs_one hpb 27
  rw [show (w.alloc (.cells #[.int .u8 97, .int .u8 98, .int .u8 99] 5 (3, 4))).heap.size = w.heap.size + 1 by simp] at hps
  have hb2 := hb1.alloc (by simp) (.cells #[.slice (some ⟨w.heap.size, 0, none⟩) 3 3] 27)
  have hs := sum_any _ _ _ hps (hk.below hb2 (by omega)) (hf.below hb2 h1) (by simp) (by simp) (by simp)
  rw [show [[(97 : UInt8), 98, 99]].flatten = [97, 98, 99] from rfl] at hs
  have g0 := abc_get 0 186 rfl
  have g1 := abc_get 1 120 rfl
  have g2 := abc_get 2 22 rfl
  have g3 := abc_get 3 191 rfl
  obtain ⟨S, hS⟩ : ∃ S, S = sumP [97, 98, 99] := ⟨_, rfl⟩
  have hSl : S.length = 32 := by rw [hS, sumP_length]
  rw [← hS] at hs g0 g1 g2 g3
  have I30 := Lib.hid (show (Tryd.prog.info? 30).map (·.size) = some ((bv S).toArray.size) by
    rw [Tryd.size30]
    simp [bv, hSl])
  have S30 := Lib.hid (show z32.size = (bv S).toArray.size by
    simp only [bv, List.size_toArray, List.length_map, hSl]
    rfl)
  have HSS := Lib.hid hs
  have G0 := Lib.hid g0
  have G1 := Lib.hid g1
  have G2 := Lib.hid g2
  have G3 := Lib.hid g3
  clear hpb hps hs hS hSl g0 g1 g2 g3 hk hf hb1
  have kc := fun (w : World) (C : Array Value) (n c : Nat) => Lib.run_convert_bytes_const (P := Tryd.prog) w 27 5 C n c Tryd.underlying27 Tryd.underlying5
  go_enter Tryd.func16, Tryd.ntmps16
  go_wp2_with fail
  refine HSS.out.mono ?_
  intro e w1 hp1
  obtain ⟨rfl, hb3⟩ := hp1
  have hb4 := hb2.trans (hb3.mono hb2.size)
  clear hb2 hb3
  go_upto_region 2 with (refine wpList_store_row rfl 30 (.tmp 1) (.tmp 5) rfl w1.heap.size _ rfl rfl 30 _ (heap_alloc_new w1 _) I30.out S30.out (bv_one _) ?_; rw [World.setRow_alloc_new])
  have hr := heap_alloc_new w1 (.cells (bv S).toArray 30)
  have q0 := (cell_of_row _ _ 0 _ _ _ hr).trans G0.out
  have q1 := (cell_of_row _ _ 1 _ _ _ hr).trans G1.out
  have q2 := (cell_of_row _ _ 2 _ _ _ hr).trans G2.out
  have q3 := (cell_of_row _ _ 3 _ _ _ hr).trans G3.out
  simp only [UInt8.reduceToNat] at q0 q1 q2 q3
  have hb5 := hb4.alloc hb4.size (.cells (bv S).toArray 30)
  obtain ⟨w2, hw2⟩ : ∃ w2, w2 = w1.alloc (.cells (bv S).toArray 30) := ⟨_, rfl⟩
  rw [← hw2] at q0 q1 q2 q3 hb5 ⊢
  clear hr hw2 hb4
  go_wp2
  go_ret
  exact ⟨rfl, hb5⟩

theorem right_any (x : W32) (n : Nat) (w : World) (h1 : 1 ≤ n) (h2 : n ≤ 31) :
    Calls Tryd.prog 33 #[.int .u32 (iv x), .int .u64 (n : Int)] w fun e w' => e = .returned (.int .u32 (iv (rotr x n))) ∧ w = w' := by
  obtain ⟨k, hk⟩ : ∃ k, n + k = 32 := ⟨32 - n, by omega⟩
  have hk1 : 1 ≤ k := by omega
  have hk2 : k ≤ 31 := by omega
  have hsub : IntKind.u64.wrap (32 - (n : Int)) = (k : Int) := by
    rw [IntKind.wrap_u64]
    omega
  have HK := Lib.hid hk
  clear hk
  go_enter Tryd.func33, Tryd.ntmps33
  go_wp2
  go_ret
  refine ⟨ret_int ?_, rfl⟩
  have e1 := iv_shl x k
  rw [IntKind.wrap_u32'] at e1
  rw [e1, iv_shr', iv_or]
  have := HK.out
  rw [show k = 32 - n by omega, rotr_comm]

theorem kw_built : (Tryd.prog.info? 52).map (·.size) = some (wv kw).toArray.size := by kernel_rfl
set_option maxRecDepth 4000 in
theorem words_any (w : World) : Calls Tryd.prog 34 #[] w (WordsPost w kw) := by
  have hb := (Below.refl w.heap.size w).alloc (Nat.le_refl _) (.cells z64 52)
  go_enter Tryd.func34, Tryd.ntmps34
  go_upto_region 1 with (fail)
  rw [z64_lit]
  go_wp2_with (first
    | refine wpList_build rfl 52 _ rfl (by as_aux_lemma => kernel_rfl) ?_
    | refine wpList_store_row rfl 52 (.tmp 0) (.tmp 1) rfl w.heap.size (wv kw).toArray rfl (by as_aux_lemma => kernel_rfl) 52 _ (heap_alloc_new w _) kw_built rfl (wv_one _) ?_)
  refine bodyPost_ret (v := .agg (wv kw).toArray) ?_ rfl ⟨rfl, below_setRow hb (Nat.le_refl _) _⟩
  exact results_cell_row Tryd.results34 _ _ w.heap.size 52 _ (0, 0) _ rfl (setRow_heap _ _ _ _ _ _ (heap_alloc_new w _)) Tryd.underlying52 rfl kw_built

theorem first_any (w : World) : Calls Tryd.prog 35 #[] w (WordsPost w fw) := by
  go_enter Tryd.func35, Tryd.ntmps35
  go_wp2_with fail
  have hb := (Below.refl w.heap.size w).alloc (Nat.le_refl _) (.cells #[.int .u32 1779033703, .int .u32 3144134277, .int .u32 1013904242, .int .u32 2773480762, .int .u32 1359893119, .int .u32 2600822924, .int .u32 528734635, .int .u32 1541459225] 23)
  refine bodyPost_ret (v := .agg (wv fw).toArray) (by simp [results, Tryd.results35, go_sem, wv, fw, iv]) rfl ⟨rfl, hb⟩
end Go.Proofs.YtbnmblhpoaaegaaDoor
