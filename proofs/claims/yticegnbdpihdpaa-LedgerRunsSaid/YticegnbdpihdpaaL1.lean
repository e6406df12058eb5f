/- Ledger: a ledger in memory; contracts of New, Get, Issue, Spend. -/
import Derived.Test.YticegnbdpihdpaaRows
import Derived.WalkKit
import Derived.Below
import Derived.Carry
import Derived.OpenShut
import Derived.WalkSmall
import Derived.Outline
import Derived.BigQuiet
import Derived.Lib.Hide
import Derived.Laws.StructEq
import Derived.Maps.OwnSet
import Derived.Maps.Views
import Derived.OrdersHeld
import Derived.Deep.RegionLaw
import Derived.Deep.RegionHeld3
import Derived.Deep.DeepCutAuto
namespace Go.Proofs.Yticegnbdpihdpaa
open Go.RowKit
set_option maxRecDepth 20000

theorem lt_of_block {w : World} {G : Nat} {o : Obj} (h : w.heap[G]? = some o) : G < w.heap.size := (Array.getElem?_eq_some_iff.1 h).1
/-- An entry's value, and how it reads. -/
abbrev eV (n o a : Nat) (x : Int) : Value := .agg #[.int .u64 (n : Int), .int .u32 (o : Int), .int .u32 (a : Int), .int .i64 x]
def eD (n o a : Nat) (x : Int) : DataW Unit := .agg [.lit (.int .u64 (n : Int)), .lit (.int .u32 (o : Int)), .lit (.int .u32 (a : Int)), .lit (.int .i64 x)]
def R (v : Value) : Option (DataW Unit × List MemPlace) :=
  match v with
  | .agg cs => match cs.toList with
    | [.int .u64 n, .int .u32 o, .int .u32 a, .int .i64 x] => some (.agg [.lit (.int .u64 n), .lit (.int .u32 o), .lit (.int .u32 a), .lit (.int .i64 x)], [])
    | _ => none
  | _ => none
theorem R_mk (n o a : Nat) (x : Int) : R (eV n o a x) = some (eD n o a x, []) := rfl
theorem R_inv {v : Value} {n o a : Nat} {x : Int} {ps : List MemPlace} (h : R v = some (eD n o a x, ps)) : v = eV n o a x := by
  unfold R at h
  split at h
  · rename_i cs
    split at h
    · rename_i hc
      injection h with h
      injection h with h _
      unfold eD at h
      injection h with h
      simp at h
      obtain ⟨rfl, rfl, rfl, rfl⟩ := h
      obtain ⟨l⟩ := cs
      simp at hc
      rw [hc]
    · cases h
  · cases h
theorem K26 : Maps.Keyed Try.prog 26 := Maps.int_keyed Try.underlying26
theorem zero33 (w : World) : (zeroValue 33).run Try.prog w = .ok (eV 0 0 0 0) w := by kernel_rfl
abbrev kl (n : Nat) : Lit := .int .u64 (n : Int)
theorem key26 (n : Nat) (h : n < 18446744073709551616) : keyOf Try.prog 26 (.int .u64 (n : Int)) = some (kl n) := Maps.keyOf_int_mk Try.underlying26 (by simp only [Lit.wf, Bool.and_eq_true, decide_eq_true_eq]; exact ⟨by show (0 : Int) ≤ _; omega, by show _ ≤ (18446744073709551615 : Int); omega⟩)

/-- The ledger in block L, its map in block M. -/
def IsL (w : World) (L M : Nat) (most : Int) (cnt : Nat) (D : DataW Unit) : Prop :=
  w.heap[L]? = some (.cells #[.int .i64 most, .map (some M)] 90 (0, 0)) ∧ w.ownsMap Try.prog 26 R M cnt D
theorem IsL.below {w w' : World} {L M : Nat} {most : Int} {cnt : Nat} {D : DataW Unit} (h : IsL w L M most cnt D) (hb : Below w.heap.size w w') : IsL w' L M most cnt D := by
  obtain ⟨h1, es, clock, hm, r⟩ := h
  exact ⟨(hb.block L (lt_of_block h1)).trans h1, es, clock, (hb.block M (lt_of_block hm)).trans hm, r⟩

set_option maxHeartbeats 1000000 in
theorem new_any (w : World) : Calls Try.prog 11 #[.int .i64 4] w fun e w' => e = .returned (.pointer (some ⟨w.heap.size + 1, 0, none⟩)) ∧ IsL w' (w.heap.size + 1) w.heap.size 4 0 (.map []) ∧ Below w.heap.size w w' := by
  have hm := World.ownsMap_made w Try.prog 26 R
  have hb := ((Below.refl w.heap.size w).alloc (Nat.le_refl _) (.map #[] 0)).alloc (by simp) (.cells #[.int .i64 4, .map (some w.heap.size)] 90)
  have hq := heap_alloc_new (w.alloc (.map #[] 0)) (.cells #[.int .i64 4, .map (some w.heap.size)] 90)
  rw [World.size_alloc] at hq
  have hmk : ∀ W : World, (Instr.makeMap 88 none).run Try.prog W = .ok (.map (some W.heap.size)) (W.alloc (.map #[] 0)) := fun W => rfl
  go_enter Try.func11, Try.ntmps11
  go_wp2
  go_ret
  exact ⟨rfl, ⟨hq, hm.alloc _⟩, hb⟩

set_option maxHeartbeats 1000000 in
theorem old_any (n o a : Nat) (x now : Int) (w : World) : Calls Try.prog 45 #[eV n o a x, .int .i64 now] w fun r w' => r = .returned (.bool (decide (x < now))) ∧ Below w.heap.size w w' := by
  have hb := (Below.refl w.heap.size w).alloc (Nat.le_refl _)
  go_enter Try.func45, Try.ntmps45
  go_wp2
  go_ret
  exact ⟨rfl, hb _⟩

set_option maxHeartbeats 1000000 in
theorem get_nil (n : Nat) (w : World) : Calls Try.prog 12 #[.pointer none, .int .u64 (n : Int)] w fun r w' => r = .returned (.tuple #[eV 0 0 0 0, .bool false]) ∧ Below w.heap.size w w' := by
  obtain ⟨w0, hw0⟩ : ∃ w0, w0 = w.alloc (.cells #[.int .u64 0, .int .u32 0, .int .u32 0, .int .i64 0] 33) := ⟨_, rfl⟩
  have hb0 : Below w.heap.size w w0 := by rw [hw0]; exact (Below.refl _ _).alloc (Nat.le_refl _) _
  have hp0 : w0.heap[w.heap.size]? = some (.cells #[.int .u64 0, .int .u32 0, .int .u32 0, .int .i64 0] 33 (0, 0)) := by rw [hw0]; exact heap_alloc_new w _
  have f0 : ∀ i, w0.frozen? ⟨w.heap.size, i, none⟩ = false := fun i => frozen_of_row w0 _ i _ _ hp0
  have g0 := cell_of_row w0 w.heap.size 0 _ _ _ hp0
  have g1 := cell_of_row w0 w.heap.size 1 _ _ _ hp0
  have g2 := cell_of_row w0 w.heap.size 2 _ _ _ hp0
  have g3 := cell_of_row w0 w.heap.size 3 _ _ _ hp0
  simp at g0 g1 g2 g3
  have H0 := Lib.hid hw0
  clear hw0 hp0
  go_enter Try.func12, Try.ntmps12
  go_upto_region 1 with (fail)
  rw [← H0.out]
  go_wp2
  exact bodyPost_ret (v := .tuple #[eV 0 0 0 0, .bool false]) (by simp [results, Try.results12, go_sem, g0, g1, g2, g3]) rfl ⟨rfl, (((hb0.setCell (by simp) _).setCell (by simp) _).setCell (by simp) _).setCell (by simp) _⟩

set_option maxHeartbeats 2000000 in
theorem get_any (L M : Nat) (most : Int) (cnt : Nat) (D : DataW Unit) (n : Nat) (n' o a : Nat) (x : Int) (h : Bool) (w : World) (hL : IsL w L M most cnt D) (hn : n < 18446744073709551616) (hh : Maps.has D (kl n) = h) (hat : D.atKey (kl n) (eD 0 0 0 0) = eD n' o a x) :
    Calls Try.prog 12 #[.pointer (some ⟨L, 0, none⟩), .int .u64 (n : Int)] w fun r w' => r = .returned (.tuple #[eV n' o a x, .bool h]) ∧ Below w.heap.size w w' := by
  obtain ⟨w0, hw0⟩ : ∃ w0, w0 = w.alloc (.cells #[.int .u64 0, .int .u32 0, .int .u32 0, .int .i64 0] 33) := ⟨_, rfl⟩
  have hb0 : Below w.heap.size w w0 := by rw [hw0]; exact (Below.refl _ _).alloc (Nat.le_refl _) _
  have hp0 : w0.heap[w.heap.size]? = some (.cells #[.int .u64 0, .int .u32 0, .int .u32 0, .int .i64 0] 33 (0, 0)) := by rw [hw0]; exact heap_alloc_new w _
  have hL0 := hL.below hb0
  obtain ⟨v, ps, hlk, hv⟩ := hL0.2.look_ok K26 Try.underlying88 (zero33 w0) (R_mk 0 0 0 0) (key26 n hn)
  rw [hat] at hv
  obtain rfl := R_inv hv
  rw [hh] at hlk
  have c1 := cell_of_row w0 L 1 _ _ _ hL0.1
  simp at c1
  obtain ⟨w1, hw1⟩ : ∃ w1, w1 = w0.alloc (.cells #[.int .u64 (n' : Int), .int .u32 (o : Int), .int .u32 (a : Int), .int .i64 x] 33) := ⟨_, rfl⟩
  have hb1 : Below w0.heap.size w0 w1 := by rw [hw1]; exact (Below.refl _ _).alloc (Nat.le_refl _) _
  have hp1 := (hb1.block w.heap.size (lt_of_block hp0)).trans hp0
  have hq1 : w1.heap[w0.heap.size]? = some (.cells #[.int .u64 (n' : Int), .int .u32 (o : Int), .int .u32 (a : Int), .int .i64 x] 33 (0, 0)) := by rw [hw1]; exact heap_alloc_new w0 _
  have f0 : ∀ i, w1.frozen? ⟨w.heap.size, i, none⟩ = false := fun i => frozen_of_row w1 _ i _ _ hp1
  have g0 := cell_of_row w1 w.heap.size 0 _ _ _ hp1
  have g1 := cell_of_row w1 w.heap.size 1 _ _ _ hp1
  have g2 := cell_of_row w1 w.heap.size 2 _ _ _ hp1
  have g3 := cell_of_row w1 w.heap.size 3 _ _ _ hp1
  have d0 := cell_of_row w1 w0.heap.size 0 _ _ _ hq1
  have d1 := cell_of_row w1 w0.heap.size 1 _ _ _ hq1
  have d2 := cell_of_row w1 w0.heap.size 2 _ _ _ hq1
  have d3 := cell_of_row w1 w0.heap.size 3 _ _ _ hq1
  simp at g0 g1 g2 g3 d0 d1 d2 d3
  have H0 := Lib.hid hw0
  have H1 := Lib.hid hw1
  have HB1 := Lib.hid (hb0.trans (hb1.mono hb0.size))
  clear hw0 hw1 hp0 hp1 hq1 hv hb0 hb1 hh hat
  go_enter Try.func12, Try.ntmps12
  go_upto_region 1 with (fail)
  rw [← H0.out]
  go_upto_region 4 with (fail)
  rw [← H1.out]
  go_wp2
  exact bodyPost_ret (v := .tuple #[eV n' o a x, .bool h]) (by simp [results, Try.results12, go_sem, g0, g1, g2, g3]) rfl ⟨rfl, (((HB1.out.setCell (by simp) _).setCell (by simp) _).setCell (by simp) _).setCell (by simp) _⟩
end Go.Proofs.Yticegnbdpihdpaa
