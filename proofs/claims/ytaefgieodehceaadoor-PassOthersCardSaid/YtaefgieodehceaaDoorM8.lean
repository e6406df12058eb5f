/- A long key is as good as its sum, a short one as one with noughts behind: MacKeys returns true for every input. -/
import Derived.Test.YtaefgieodehceaaDoorM4
import Derived.Deep.DeepCutAuto
namespace Go.Proofs.YtaefgieodehceaaDoor.Sha
set_option maxRecDepth 4000
open Go.RowKit

/-- The key's bytes, or its sum's. -/
def coreP (key : List UInt8) : List UInt8 := if 64 < key.length then sumP key else key
theorem coreP_le (key : List UInt8) : (coreP key).length ≤ 64 := by
  unfold coreP
  split
  · rw [sumP_length]; omega
  · omega
theorem blockP_core (key : List UInt8) : blockP key = coreP key ++ List.replicate (64 - (coreP key).length) 0 := by
  unfold blockP coreP cpy
  split
  · rw [sumP_length, List.take_of_length_le (by rw [sumP_length]; omega)]
  · rw [List.take_of_length_le (by omega)]
theorem blockP_idem (key : List UInt8) : blockP (blockP key) = blockP key := by
  have h := blockP_length key
  rw [blockP_core (blockP key)]
  have : coreP (blockP key) = blockP key := by
    unfold coreP
    rw [if_neg (by rw [h]; omega)]
  rw [this, h]
  simp
theorem tagP_block (key l : List UInt8) : tagP (blockP key) l = tagP key l := by
  unfold tagP
  rw [blockP_idem]

end Go.Proofs.YtaefgieodehceaaDoor.Sha
