/- HMAC with SHA-256: the plain side; a key's block, mixed with a byte. -/
import Derived.Test.YtaefgieodehceaaDoorSJ
namespace Go.Proofs.YtaefgieodehceaaDoor.Sha
set_option maxRecDepth 4000
open Go.RowKit

/-- A key's block: the key, or its sum when it is longer, noughts behind. -/
def blockP (key : List UInt8) : List UInt8 := cpy (if 64 < key.length then sumP key else key) (if 64 < key.length then 32 else key.length)
def mixP (c : UInt8) (bl : List UInt8) : List UInt8 := bl.map fun x => x ^^^ c
def tagP (key l : List UInt8) : List UInt8 := sumP (mixP 92 (blockP key) ++ sumP (mixP 54 (blockP key) ++ l))
theorem mixP_length (c : UInt8) (bl : List UInt8) : (mixP c bl).length = bl.length := by simp [mixP]
theorem tagP_length (key l : List UInt8) : (tagP key l).length = 32 := sumP_length _
theorem xor_bytes (x c : UInt8) : bits .xor .u8 (x.toNat : Int) (c.toNat : Int) = ((x ^^^ c).toNat : Int) := by
  rw [u8_xor_nat _ _ (by have := x.toNat_lt; omega) (by have := c.toNat_lt; omega), UInt8.toNat_xor]

/-- The first k bytes mixed. -/
def mixAt (c : UInt8) (bl : List UInt8) (k : Nat) : List UInt8 := mixP c (bl.take k) ++ bl.drop k
theorem mixAt_length (c : UInt8) (bl : List UInt8) (k : Nat) : (mixAt c bl k).length = bl.length := by
  simp [mixAt, mixP]
  omega
theorem mixAt_get (c : UInt8) (bl : List UInt8) (k : Nat) (hk : k < bl.length) : (mixAt c bl k).getD k 0 = bl.getD k 0 := by
  have hl : (mixP c (bl.take k)).length = k := by simp [mixP]; omega
  unfold mixAt
  simp only [List.getD]
  rw [List.getElem?_append_right (by omega), hl, Nat.sub_self, List.getElem?_drop, Nat.add_zero]
theorem mixAt_next (c : UInt8) (bl : List UInt8) (k : Nat) (hk : k < bl.length) : mixAt c bl (k + 1) = (mixAt c bl k).set k (bl.getD k 0 ^^^ c) := by
  have hl : (mixP c (bl.take k)).length = k := by simp [mixP]; omega
  unfold mixAt
  rw [List.set_append_right _ _ (by omega), hl, Nat.sub_self, List.take_succ_eq_append_getElem hk, List.drop_eq_getElem_cons hk, List.set_cons_zero]
  rw [show mixP c (bl.take k ++ [bl[k]]) = mixP c (bl.take k) ++ [bl[k] ^^^ c] by unfold mixP; rw [List.map_append]; rfl, List.append_assoc]
  simp [List.getD, List.getElem?_eq_getElem hk]

/-- A key in block K. -/
def IsK (w : World) (K : Nat) (bl : List UInt8) : Prop := bl.length = 64 ∧ w.heap[K]? = some (.cells (bv bl).toArray 65 (0, 0))

set_option linter.unusedSimpArgs false in
set_option maxHeartbeats 1000000 in
set_option maxRecDepth 4000 in
theorem mixed_any (K : Nat) (bl : List UInt8) (c : UInt8) (w : World) (hk : IsK w K bl) :
    Calls Tryd.prog 50 #[.pointer (some ⟨K, 0, none⟩), .int .u8 (c.toNat : Int)] w fun e w' => e = .returned (.slice (some ⟨w.heap.size, 0, none⟩) 64 64) ∧ Pb w' (.slice (some ⟨w.heap.size, 0, none⟩) 64 64) (mixP c bl) ∧ Below w.heap.size w w' := by
  obtain ⟨h64, hrow⟩ := hk
  have J2 := Lib.hid (show (Tryd.prog.info? 63).map (·.size) = some (bv bl).toArray.size by rw [Tryd.size63]; simp [bv, h64])
  have Z2 := Lib.hid (show zb64.size = (bv bl).toArray.size by
    simp only [bv, List.size_toArray, List.length_map, h64]
    rfl)
  have HROW := Lib.hid hrow
  have H64 := Lib.hid h64
  clear hrow h64
  go_enter Tryd.func50, Tryd.ntmps50
  go_upto_region 2 with (first
    | refine wpList_load_row rfl 63 (.tmp 9) rfl K rfl 65 (bv bl).toArray (0, 0) _ HROW.out Tryd.underlying63 rfl J2.out ?_
    | (refine wpList_store_row rfl 63 (.tmp 5) (.tmp 10) rfl w.heap.size (bv bl).toArray rfl rfl 63 _ (heap_alloc_new w _) J2.out Z2.out (bv_one _) ?_; rw [World.setRow_alloc_new]))
  obtain ⟨w1, hw1⟩ : ∃ w1, w1 = w.alloc (.cells (bv bl).toArray 63) := ⟨_, rfl⟩
  rw [← hw1]
  obtain ⟨R, hR⟩ : ∃ R, R = w.heap.size := ⟨_, rfl⟩
  have hr1 : w1.heap[R]? = some (.cells (bv (mixAt c bl 0)).toArray 63 (0, 0)) := by
    rw [hw1, hR, heap_alloc_new]
    simp [mixAt, mixP]
  have hb1 : Below w.heap.size w w1 := by rw [hw1]; exact (Below.refl _ _).alloc (Nat.le_refl _) _
  rw [← hR]
  have HR1 := Lib.hid hr1
  have HB1 := Lib.hid hb1
  have HRE := Lib.hid hR
  clear hr1 hb1 hw1 hR HROW J2 Z2
  go_wp2_with fail
  go_loopw [6, 11] (fun _ i wr => ∃ k : Nat, k ≤ 64 ∧ i = .int .i64 k ∧ Hid (wr.heap[R]? = some (.cells (bv (mixAt c bl k)).toArray 63 (0, 0))) ∧ Hid (Below w.heap.size w wr)) (fun _ i _ => 64 - (intOf i).toNat)
  case atStart => exact ⟨0, by omega, rfl, HR1, HB1⟩
  case round =>
    clear HR1 HB1
    obtain ⟨k, hk, rfl, ho, hb⟩ := hrel
    by_cases hlt : k < 64
    · have hdst := bytes_cell ho.out (k := k) (by rw [mixAt_length, H64.out]; exact hlt)
      rw [mixAt_get _ _ _ (by rw [H64.out]; exact hlt)] at hdst
      obtain ⟨x, hx⟩ : ∃ x, x = bl.getD k 0 := ⟨_, rfl⟩
      rw [← hx] at hdst
      have hfr : wr.frozen? ⟨R, k, none⟩ = false := frozen_of_row wr _ _ _ _ ho.out
      have HX := Lib.hid hx
      clear hx
      go_wp2_with fail
      go_roundw
      case rel =>
        refine ⟨k + 1, by omega, by go_num, ?_, ?_⟩
        · rw [mixAt_next _ _ _ (by rw [H64.out]; exact hlt), ← HX.out, xor_bytes]
          exact Lib.hid (bytes_set ho.out)
        · exact Lib.hid (hb.out.setCell (by rw [HRE.out]; simp) _)
      case measure => simp [intOf] <;> omega
    · obtain rfl : k = 64 := by omega
      have hlt2 := lt_of_block' ho.out
      go_wp2_with fail
      go_ret
      refine ⟨by rw [HRE.out]; rfl, ?_, hb.out⟩
      have hm : mixAt c bl 64 = mixP c bl := by
        unfold mixAt
        rw [List.take_of_length_le (by rw [H64.out]; omega), List.drop_eq_nil_of_le (by rw [H64.out]; omega), List.append_nil]
      have hro := ho.out
      rw [hm] at hro
      rw [← HRE.out]
      refine pb_block (fun j u hu => ?_) (by rw [mixP_length, H64.out]) hlt2
      rw [cell_of_row _ _ (0 + j) _ _ _ hro, Nat.zero_add, List.getElem?_toArray, hu]
end Go.Proofs.YtaefgieodehceaaDoor.Sha
