/- Frames: what came is not kept as the caller's, and frames are their own: FrameHeld returns true for every input. -/
import Derived.Test.YtggoclmboemmlaaFD
namespace Go.Proofs.Ytggoclmboemmlaa
open Go.RowKit

/-- What a reader, alive or dead, makes of more bytes. -/
def nxt (r : List UInt8) (d : Bool) (p : List UInt8) : List (List UInt8) × List UInt8 × Bool := if d then ([], r, true) else parse (r ++ p)
theorem feed_both (H : Nat) (v y : Value) (r p : List UInt8) (d : Bool) (w : World) (hr : IsR w H v r d) (hp : Pb w y p) (hlen : r.length + p.length ≤ 900000) :
    Calls Try.prog 16 #[.pointer (some ⟨H, 0, none⟩), y] w fun e w' => ∃ A n c vs v', e = .returned (.tuple #[.slice A n c, .int .i64 (if (nxt r d p).2.2 then 6 else 0)]) ∧
      Frs w' w.heap.size (.slice A n c) (nxt r d p).1 vs ∧ IsR w' H v' (nxt r d p).2.1 (nxt r d p).2.2 ∧
      (v'.ownBlock = v.ownBlock ∨ v'.ownBlock = none ∨ ∃ k, v'.ownBlock = some k ∧ w.heap.size ≤ k) ∧ (∀ u ∈ vs, ∀ k, v'.ownBlock = some k → u.ownBlock ≠ some k) ∧ Kp (fun k => k = H ∨ v.ownBlock = some k) w w' := by
  cases d with
  | false => exact feed_any H v y r p w hr hp hlen
  | true =>
    refine (feed_dead H v y w hr.1).mono ?_
    rintro e w' ⟨rfl, rfl⟩
    exact ⟨none, 0, 0, [], v, rfl, Frs.nil w _, hr, .inl rfl, (fun u hu => by cases hu), Kp.refl _ _⟩
theorem nxt_le (r : List UInt8) (d : Bool) (p : List UInt8) (h : r.length ≤ 1025) : (nxt r d p).2.1.length ≤ 1025 := by
  unfold nxt
  split
  · exact h
  · exact (rest_le _).1
theorem nxt_few (r : List UInt8) (d : Bool) (p : List UInt8) : (nxt r d p).1.length ≤ r.length + p.length := by
  unfold nxt
  split
  · simp
  · have := parse_few (r ++ p)
    rwa [List.length_append] at this
theorem bv_set (l : List UInt8) (j : Nat) (y : UInt8) : (bv l).set j (.int .u8 (y.toNat : Int)) = bv (l.set j y) := by
  simp [bv, List.map_set]
theorem bv_get (l : List UInt8) (j : Nat) (hj : j < l.length) : (bv l)[j]? = some (.int .u8 ((l[j].toNat : Nat) : Int)) := by
  simp [bv, hj]
theorem xor_small : ∀ n : Fin 256, bits .xor .u8 ((n.val : Nat) : Int) 255 = (((UInt8.ofNat n.val) ^^^ 255).toNat : Int) := by decide +kernel
theorem xor_byte (y : UInt8) : bits .xor .u8 (y.toNat : Int) 255 = ((y ^^^ 255).toNat : Int) := by
  have h := xor_small ⟨y.toNat, y.toNat_lt⟩
  simpa using h
/-- A byte written anywhere leaves a row of bytes of one's own, of the same length. -/
theorem own_set {w : World} {B g j : Nat} {v : Value} {ys : List UInt8} {y : UInt8} (h : w.ownsRow B 5 1 v ys.length (bv ys)) :
    ∃ zs : List UInt8, zs.length = ys.length ∧ (w.setCell ⟨g, j, none⟩ (.int .u8 (y.toNat : Int))).ownsRow B 5 1 v ys.length (bv zs) := by
  rcases h.2 with ⟨rfl, h0⟩ | ⟨g', cap, cur, rfl, hb, hg, hc, hm, hcs, ht⟩
  · exact ⟨ys, rfl, h.1, .inl ⟨rfl, h0⟩⟩
  · by_cases he : g' = g
    · subst he
      refine ⟨ys.set j y, by simp, by simp [bv], .inr ⟨g', cap, cur.setIfInBounds j (.int .u8 (y.toNat : Int)), rfl, hb, heap_setCell_same w g' j cur 5 _ hg, hc, hm, by simpa using hcs, ?_⟩⟩
      rw [← bv_set, ← ht]
      simp [List.take_set]
    · exact ⟨ys, rfl, (Kp.setCell w ⟨g, j, none⟩ _).own h (fun k hk e => by injection hk with hk; exact he (hk.trans e))⟩

/-- Rows of bytes, whatever is in them. -/
def FrL (w : World) (B n : Nat) (fv : Value) (us : List Value) (N : Nat → Nat) : Prop :=
  w.ownsRow B 24 1 fv n us ∧ ∀ j, j < n → ∃ A c, us[j]? = some (.slice A (N j) c) ∧ ∃ ys : List UInt8, ys.length = N j ∧ w.ownsRow B 5 1 (.slice A (N j) c) ys.length (bv ys)
end Go.Proofs.Ytggoclmboemmlaa
