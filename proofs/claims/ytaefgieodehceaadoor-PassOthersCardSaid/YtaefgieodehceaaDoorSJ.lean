/- A sum is a chain of steps: ShaChain returns true for every input. -/
import Derived.Test.YtaefgieodehceaaDoorSI
namespace Go.Proofs.YtaefgieodehceaaDoor.Sha
set_option maxRecDepth 4000
open Go.RowKit

theorem be8_small (n : Nat) (h : n < 65536) : be8 n = [0, 0, 0, 0, 0, 0, UInt8.ofNat (n / 256), UInt8.ofNat n] := by
  have e : List.range 8 = [0, 1, 2, 3, 4, 5, 6, 7] := rfl
  have z : ∀ k, 16 ≤ k → n / 2 ^ k = 0 := fun k hk => Nat.div_eq_of_lt (Nat.lt_of_lt_of_le h (Nat.le_trans (by decide : 65536 ≤ 2 ^ 16) (Nat.pow_le_pow_right (by decide) hk)))
  unfold be8
  rw [e]
  simp only [List.map]
  rw [z _ (by omega), z _ (by omega), z _ (by omega), z _ (by omega), z _ (by omega), z _ (by omega)]
  simp
def f8 : Array Value := #[.int .u32 1779033703, .int .u32 3144134277, .int .u32 1013904242, .int .u32 2773480762, .int .u32 1359893119, .int .u32 2600822924, .int .u32 528734635, .int .u32 1541459225]
theorem f8_eq : f8 = (wv fw).toArray := by simp [f8, wv, fw, iv]
def zb64 : Array Value := #[Value.int .u8 0, Value.int .u8 0, Value.int .u8 0, Value.int .u8 0, Value.int .u8 0, Value.int .u8 0, Value.int .u8 0, Value.int .u8 0, Value.int .u8 0, Value.int .u8 0, Value.int .u8 0, Value.int .u8 0, Value.int .u8 0, Value.int .u8 0, Value.int .u8 0, Value.int .u8 0, Value.int .u8 0, Value.int .u8 0, Value.int .u8 0, Value.int .u8 0, Value.int .u8 0, Value.int .u8 0, Value.int .u8 0, Value.int .u8 0, Value.int .u8 0, Value.int .u8 0, Value.int .u8 0, Value.int .u8 0, Value.int .u8 0, Value.int .u8 0, Value.int .u8 0, Value.int .u8 0, Value.int .u8 0, Value.int .u8 0, Value.int .u8 0, Value.int .u8 0, Value.int .u8 0, Value.int .u8 0, Value.int .u8 0, Value.int .u8 0, Value.int .u8 0, Value.int .u8 0, Value.int .u8 0, Value.int .u8 0, Value.int .u8 0, Value.int .u8 0, Value.int .u8 0, Value.int .u8 0, Value.int .u8 0, Value.int .u8 0, Value.int .u8 0, Value.int .u8 0, Value.int .u8 0, Value.int .u8 0, Value.int .u8 0, Value.int .u8 0, Value.int .u8 0, Value.int .u8 0, Value.int .u8 0, Value.int .u8 0, Value.int .u8 0, Value.int .u8 0, Value.int .u8 0, Value.int .u8 0]
theorem zb64_lit : #[Value.int .u8 0, Value.int .u8 0, Value.int .u8 0, Value.int .u8 0, Value.int .u8 0, Value.int .u8 0, Value.int .u8 0, Value.int .u8 0, Value.int .u8 0, Value.int .u8 0, Value.int .u8 0, Value.int .u8 0, Value.int .u8 0, Value.int .u8 0, Value.int .u8 0, Value.int .u8 0, Value.int .u8 0, Value.int .u8 0, Value.int .u8 0, Value.int .u8 0, Value.int .u8 0, Value.int .u8 0, Value.int .u8 0, Value.int .u8 0, Value.int .u8 0, Value.int .u8 0, Value.int .u8 0, Value.int .u8 0, Value.int .u8 0, Value.int .u8 0, Value.int .u8 0, Value.int .u8 0, Value.int .u8 0, Value.int .u8 0, Value.int .u8 0, Value.int .u8 0, Value.int .u8 0, Value.int .u8 0, Value.int .u8 0, Value.int .u8 0, Value.int .u8 0, Value.int .u8 0, Value.int .u8 0, Value.int .u8 0, Value.int .u8 0, Value.int .u8 0, Value.int .u8 0, Value.int .u8 0, Value.int .u8 0, Value.int .u8 0, Value.int .u8 0, Value.int .u8 0, Value.int .u8 0, Value.int .u8 0, Value.int .u8 0, Value.int .u8 0, Value.int .u8 0, Value.int .u8 0, Value.int .u8 0, Value.int .u8 0, Value.int .u8 0, Value.int .u8 0, Value.int .u8 0, Value.int .u8 0] = zb64 := rfl
theorem zb64_eq : zb64 = (bv (List.replicate 64 0)).toArray := rfl
/-- The first k bytes of a block, noughts behind them. -/
def cpy (bl : List UInt8) (k : Nat) : List UInt8 := bl.take k ++ List.replicate (64 - k) 0
theorem cpy_length (bl : List UInt8) (k : Nat) (hb : bl.length = 64) (hk : k ≤ 64) : (cpy bl k).length = 64 := by
  simp [cpy]
  omega
theorem cpy_next (bl : List UInt8) (k : Nat) (hb : bl.length = 64) (hk : k < 64) : cpy bl (k + 1) = (cpy bl k).set k (bl.getD k 0) := by
  have hl : (bl.take k).length = k := by simp; omega
  unfold cpy
  rw [List.set_append_right _ _ (by omega), hl, Nat.sub_self, List.take_succ_eq_append_getElem (by omega), show 64 - k = (64 - (k + 1)) + 1 by omega, List.replicate_succ, List.set_cons_zero, List.append_assoc]
  simp [List.getD, List.getElem?_eq_getElem (show k < bl.length by omega)]
theorem pb_at {w : World} {b o n c : Nat} {P : List UInt8} (h : Pb w (.slice (some ⟨b, o, none⟩) n c) P) {j : Nat} (hj : j < P.length) : w.cell? ⟨b, o + j, none⟩ = some (.int .u8 ((P.getD j 0).toNat : Int)) := by
  obtain ⟨A, c', e, _, hr⟩ := h
  obtain ⟨b', o', rfl, _, hc⟩ := hr (by omega)
  injection e with e1 _ _
  injection e1 with e1
  injection e1 with e4 e5
  subst e4 e5
  apply hc
  simp [bv, List.getD, List.getElem?_eq_getElem hj]
theorem pb_eight {w : World} (n : Nat) (h : n ≤ 600) : Pb (w.alloc (.cells #[.int .u8 0, .int .u8 0, .int .u8 0, .int .u8 0, .int .u8 0, .int .u8 0, .int .u8 ((n : Int) * 8 / 256), .int .u8 ((n : Int) * 8 % 256)] 5)) (.slice (some ⟨w.heap.size, 0, none⟩) 8 8) (be8 (8 * n)) := by
  have e := be8_small (8 * n) (by omega)
  refine ⟨_, 8, by rw [be8_length], by rw [be8_length]; omega, fun _ => ⟨w.heap.size, 0, rfl, by simp, fun j u hu => ?_⟩⟩
  rw [cell_of_row _ _ _ _ _ _ (heap_alloc_new w _), Nat.zero_add, List.getElem?_toArray, ← hu, e]
  congr 1
  simp [bv]
  omega

end Go.Proofs.YtaefgieodehceaaDoor.Sha
