/- What is written is not kept: ShaKept returns true for every input. -/
import Derived.Test.YtaefgieodehceaaDoorSF
namespace Go.Proofs.YtaefgieodehceaaDoor.Sha
set_option maxRecDepth 4000
open Go.RowKit

theorem own_px {w : World} {B H : Nat} {v : Value} {l : List UInt8} (h : w.ownsRow B 5 1 v l.length (bv l)) (hH : H < B) : Px w H v l := by
  obtain ⟨A, c, e, hc, hr⟩ := own_pb h
  refine ⟨A, c, e, hc, fun hp => ?_⟩
  obtain ⟨b, o, ha, hb, hcell⟩ := hr hp
  have := (h.lt b (by rw [e, ha]; rfl)).1
  exact ⟨b, o, ha, by omega, hb, hcell⟩
theorem grown_own {a w w' : World} {H B : Nat} {v : Value} {n : Nat} {xs : List Value} (hg : a.grownBy w (some H)) (ho : w.ownsRow B 5 1 v n xs) (hB : a.heap.size ≤ B) (hg2 : w.grownBy w' v.ownBlock) : a.grownBy w' (some H) :=
  ⟨hg2.os.trans hg.os, hg2.tape.trans hg.tape, hg2.output.trans hg.output, Nat.le_trans hg.size hg2.size, fun k hk hne => (hg2.block k (Nat.lt_of_lt_of_le hk hg.size) (fun e => by have := (ho.lt k e.symm).1; omega)).trans (hg.block k hk hne)⟩
theorem own_above' {w : World} {B H : Nat} {v : Value} {n : Nat} {xs : List Value} (h : w.ownsRow B 5 1 v n xs) (hB : H < B) : v.ownBlock = none ∨ v.ownBlock ≠ some H := by
  cases hv : v.ownBlock with
  | none => exact .inl rfl
  | some k => exact .inr (fun e => by have := (h.lt k hv).1; injection e with e; omega)
theorem ish_kept' {w w' : World} {B H : Nat} {l : List UInt8} {v : Value} {n : Nat} {xs : List Value} (h : IsH w H l) (ho : w.ownsRow B 5 1 v n xs) (hB : H < B) (hg : w.grownBy w' v.ownBlock) : IsH w' H l :=
  IsHM.kept h (hg.block H (IsHM.lt h) (fun e => by have := (ho.lt H e.symm).1; omega))
theorem xor_small : ∀ n : Fin 256, bits .xor .u8 ((n.val : Nat) : Int) 255 = (((UInt8.ofNat n.val) ^^^ 255).toNat : Int) := by decide +kernel
theorem xor_byte (y : UInt8) : bits .xor .u8 (y.toNat : Int) 255 = ((y ^^^ 255).toNat : Int) := by
  have h := xor_small ⟨y.toNat, y.toNat_lt⟩
  simpa using h
theorem eq_zero (Z : List UInt8) (hZ : Z = List.replicate 32 0) (w : World) : (Op.equalIn 10000 57 (.agg (bv Z).toArray) (.agg #[Value.int .u8 0, Value.int .u8 0, Value.int .u8 0, Value.int .u8 0, Value.int .u8 0, Value.int .u8 0, Value.int .u8 0, Value.int .u8 0, Value.int .u8 0, Value.int .u8 0, Value.int .u8 0, Value.int .u8 0, Value.int .u8 0, Value.int .u8 0, Value.int .u8 0, Value.int .u8 0, Value.int .u8 0, Value.int .u8 0, Value.int .u8 0, Value.int .u8 0, Value.int .u8 0, Value.int .u8 0, Value.int .u8 0, Value.int .u8 0, Value.int .u8 0, Value.int .u8 0, Value.int .u8 0, Value.int .u8 0, Value.int .u8 0, Value.int .u8 0, Value.int .u8 0, Value.int .u8 0])).run Tryd.prog w = .ok true w := by
  have h := eq_bytes Z (by rw [hZ]; rfl) w
  have e : (bv Z).toArray = #[Value.int .u8 0, Value.int .u8 0, Value.int .u8 0, Value.int .u8 0, Value.int .u8 0, Value.int .u8 0, Value.int .u8 0, Value.int .u8 0, Value.int .u8 0, Value.int .u8 0, Value.int .u8 0, Value.int .u8 0, Value.int .u8 0, Value.int .u8 0, Value.int .u8 0, Value.int .u8 0, Value.int .u8 0, Value.int .u8 0, Value.int .u8 0, Value.int .u8 0, Value.int .u8 0, Value.int .u8 0, Value.int .u8 0, Value.int .u8 0, Value.int .u8 0, Value.int .u8 0, Value.int .u8 0, Value.int .u8 0, Value.int .u8 0, Value.int .u8 0, Value.int .u8 0, Value.int .u8 0] := by rw [hZ]; rfl
  rw [e] at h ⊢
  exact h
theorem own_some {w : World} {B n : Nat} {v : Value} {xs : List Value} (h : w.ownsRow B 5 1 v n xs) (hn : 0 < n) : ∃ g cap, v = .slice (some ⟨g, 0, none⟩) n cap := by
  rcases h.2 with ⟨_, hx⟩ | ⟨g, cap, cur, hv, _⟩
  · have h1 := h.1
    rw [hx] at h1
    simp at h1
    omega
  · exact ⟨g, cap, hv⟩
theorem bv_set (l : List UInt8) (j : Nat) (y : UInt8) : (bv l).set j (.int .u8 (y.toNat : Int)) = bv (l.set j y) := by
  simp [bv, List.map_set]
theorem bv_get (l : List UInt8) (j : Nat) (hj : j < l.length) : (bv l)[j]? = some (.int .u8 ((l[j].toNat : Nat) : Int)) := by
  simp [bv, hj]

end Go.Proofs.YtaefgieodehceaaDoor.Sha
