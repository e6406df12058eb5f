/- SHA-256: what the chapter's example says; the document's own turn, words, first words, Step. -/
import Derived.Test.YtaefgieodehceaaDoorS8
import Derived.Laws.StructEq
import Derived.Lib.SlBytesConst
namespace Go.Proofs.YtaefgieodehceaaDoor.Sha
set_option maxRecDepth 4000
open Go.RowKit

theorem abc_get : ∀ (j : Nat) (x : UInt8), [(186 : UInt8), 120, 22, 191][j]? = some x → (bv (sumP [97, 98, 99])).toArray[j]? = some (Value.int .u8 (x.toNat : Int)) := fun j x hx => by
  have hj : j < 4 := (List.getElem?_eq_some_iff.1 hx).1
  rw [← abc, List.getElem?_take, if_pos hj] at hx
  rw [List.getElem?_toArray]
  simp [bv, hx]

theorem right_any (x : W32) (n : Nat) (w : World) (h1 : 1 ≤ n) (h2 : n ≤ 31) :
    Calls Tryd.prog 52 #[.int .u32 (iv x), .int .u64 (n : Int)] w fun e w' => e = .returned (.int .u32 (iv (rotr x n))) ∧ w = w' := by
  obtain ⟨k, hk⟩ : ∃ k, n + k = 32 := ⟨32 - n, by omega⟩
  have hk1 : 1 ≤ k := by omega
  have hk2 : k ≤ 31 := by omega
  have hsub : IntKind.u64.wrap (32 - (n : Int)) = (k : Int) := by
    rw [IntKind.wrap_u64]
    omega
  have HK := Lib.hid hk
  clear hk
  go_enter Tryd.func52, Tryd.ntmps52
  go_wp2
  go_ret
  refine ⟨ret_int ?_, rfl⟩
  have e1 := iv_shl x k
  rw [IntKind.wrap_u32'] at e1
  rw [e1, iv_shr', iv_or]
  have := HK.out
  rw [show k = 32 - n by omega, rotr_comm]

theorem kw_built : (Tryd.prog.info? 112).map (·.size) = some (wv kw).toArray.size := by kernel_rfl
set_option maxRecDepth 4000 in
theorem words_any (w : World) : Calls Tryd.prog 53 #[] w (WordsPost w kw) := by
  have hb := (Below.refl w.heap.size w).alloc (Nat.le_refl _) (.cells z64 112)
  go_enter Tryd.func53, Tryd.ntmps53
  go_upto_region 1 with (fail)
  rw [z64_lit]
  go_wp2_with (first
    | refine wpList_build rfl 112 _ rfl (by as_aux_lemma => kernel_rfl) ?_
    | refine wpList_store_row rfl 112 (.tmp 0) (.tmp 1) rfl w.heap.size (wv kw).toArray rfl (by as_aux_lemma => kernel_rfl) 112 _ (heap_alloc_new w _) kw_built rfl (wv_one _) ?_)
  refine bodyPost_ret (v := .agg (wv kw).toArray) ?_ rfl ⟨rfl, below_setRow hb (Nat.le_refl _) _⟩
  exact results_cell_row Tryd.results53 _ _ w.heap.size 112 _ (0, 0) _ rfl (setRow_heap _ _ _ _ _ _ (heap_alloc_new w _)) Tryd.underlying112 rfl kw_built

theorem first_any (w : World) : Calls Tryd.prog 40 #[] w (WordsPost w fw) := by
  go_enter Tryd.func40, Tryd.ntmps40
  go_wp2_with fail
  have hb := (Below.refl w.heap.size w).alloc (Nat.le_refl _) (.cells #[.int .u32 1779033703, .int .u32 3144134277, .int .u32 1013904242, .int .u32 2773480762, .int .u32 1359893119, .int .u32 2600822924, .int .u32 528734635, .int .u32 1541459225] 92)
  refine bodyPost_ret (v := .agg (wv fw).toArray) (by simp [results, Tryd.results40, go_sem, wv, fw, iv]) rfl ⟨rfl, hb⟩
end Go.Proofs.YtaefgieodehceaaDoor.Sha
