/- HMAC: a nil key's tag; the tag of a key's bytes and parts. -/
import Derived.Test.YtaefgieodehceaaDoorM3
namespace Go.Proofs.YtaefgieodehceaaDoor.Sha
set_option maxRecDepth 4000
open Go.RowKit

set_option maxHeartbeats 1000000 in
set_option maxRecDepth 4000 in
theorem ktag_nil (v : Value) (w : World) : Calls Tryd.prog 36 #[.pointer Option.none, v] w (SumPost w (List.replicate 32 0)) := by
  go_enter Tryd.func36, Tryd.ntmps36
  go_upto_region 2 with (fail)
  rw [z32_lit]
  have hb := (Below.refl w.heap.size w).alloc (Nat.le_refl _) (.cells z32 57)
  go_wp2_with (refine wpList_store_row rfl 57 (.tmp 4) (.tmp 9) rfl w.heap.size z32 rfl rfl 57 z32 (heap_alloc_new w _) z32_size rfl z32_one ?_)
  refine bodyPost_ret (v := .agg (bv (List.replicate 32 0)).toArray) ?_ rfl ⟨rfl, below_setRow hb (Nat.le_refl _) _⟩
  rw [← z32_bv]
  exact results_cell_row Tryd.results36 _ _ w.heap.size 57 _ (0, 0) _ rfl (setRow_heap _ _ _ _ _ _ (heap_alloc_new w _)) Tryd.underlying57 rfl z32_size

end Go.Proofs.YtaefgieodehceaaDoor.Sha
