/- Any eight words, brought on by any block, are what the document says: ShaSteps returns true for every input. -/
import Derived.Test.YtaefgieodehceaaDoorSA
import Derived.ChangeKeysEq
namespace Go.Proofs.YtaefgieodehceaaDoor.Sha
set_option maxRecDepth 4000
open Go.RowKit

theorem eqItems_self (w : World) (d e n : Nat) (k k' : IntKind) (xs : Array Value) (he : Tryd.prog.underlying e = some (.int k')) (ha : ∀ w, (isAgg e).run Tryd.prog w = .ok false w) :
    ∀ (is : List Nat), (∀ i ∈ is, ∃ x : Int, xs[i * n]? = some (.int k x)) → (Op.eqItems (d + 1) e n xs xs is).run Tryd.prog w = .ok true w
  | [], _ => by simp [Op.eqItems]
  | i :: is, h => by
    obtain ⟨x, hx⟩ := h i (by simp)
    have ih := eqItems_self w d e n k k' xs he ha is (fun j hj => h j (by simp [hj]))
    have hp : (part e xs (i * n)).run Tryd.prog w = .ok (.int k x) w := by simp [part, Sem.run_bind, ha, hx]
    simp only [Op.eqItems, Sem.run_bind, hp, Result.andThen_ok, run_equalIn_int w d e k k' x x he]
    simp [ih]
theorem eq_words (h : List W32) (hl : h.length = 8) (w : World) : (Op.equalIn 10000 92 (.agg (wv h).toArray) (.agg (wv h).toArray)).run Tryd.prog w = .ok true w := by
  cases hq : Tryd.prog.info? 23 with
  | none => exact absurd Tryd.size23 (by simp [hq])
  | some i =>
    rw [run_equalIn_array w 9999 _ _ Tryd.underlying92 hq]
    refine eqItems_self w 9998 23 _ .u32 _ _ Tryd.underlying23 Tryd.plain23 _ (fun i hi => ?_)
    have hc : Tryd.prog.cellsOf 23 = 1 := by kernel_rfl
    have hi8 : i < h.length := by rw [hl]; simpa using hi
    rw [hc, Nat.mul_one]
    exact ⟨iv h[i], by simp [wv, hi8]⟩
theorem eq_bytes (l : List UInt8) (hl : l.length = 32) (w : World) : (Op.equalIn 10000 57 (.agg (bv l).toArray) (.agg (bv l).toArray)).run Tryd.prog w = .ok true w := by
  cases hq : Tryd.prog.info? 5 with
  | none => exact absurd Tryd.size5 (by simp [hq])
  | some i =>
    rw [run_equalIn_array w 9999 _ _ Tryd.underlying57 hq]
    refine eqItems_self w 9998 5 _ .u8 _ _ Tryd.underlying5 Tryd.plain5 _ (fun i hi => ?_)
    have hc : Tryd.prog.cellsOf 5 = 1 := by kernel_rfl
    have hi8 : i < l.length := by rw [hl]; simpa using hi
    rw [hc, Nat.mul_one]
    exact ⟨_, by simp [bv, hi8]; rfl⟩
theorem size_alloc1 (w : World) (o : Obj) : (w.alloc o).heap.size = w.heap.size + 1 := by simp
theorem pb_block {w : World} {B : Nat} {bl : List UInt8} (h : w.rangeAt B 0 (bv bl)) (hb : bl.length = 64) (hB : B < w.heap.size) : Pb w (.slice (some ⟨B, 0, none⟩) 64 64) bl :=
  ⟨_, 64, by rw [hb], by omega, fun _ => ⟨B, 0, rfl, hB, h⟩⟩

set_option linter.unusedSimpArgs false
end Go.Proofs.YtaefgieodehceaaDoor.Sha
