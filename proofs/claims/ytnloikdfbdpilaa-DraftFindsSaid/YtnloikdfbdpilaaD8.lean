/- Draft: places. -/
import Derived.Test.YtnloikdfbdpilaaD7
import Derived.Laws.OwnMore
import Derived.OwnWalk
import Derived.Deep.OwnRows
import Derived.IntWalk
import Derived.StillTailTactics
namespace Go.Proofs.Ytnloikdfbdpilaa
open Go.RowKit
set_option maxRecDepth 20000

/-- The numbers l are read from A on. -/
def Zs (w : World) (B : Nat) (A : Option Addr) (l : List Int) : Prop :=
  0 < l.length → ∃ b o, A = some ⟨b, o, none⟩ ∧ b < B ∧ ∀ i x, l[i]? = some x → w.cell? ⟨b, o + i, none⟩ = some (.int .i64 x)
theorem Zs.nil {w : World} {B : Nat} {A : Option Addr} : Zs w B A [] := fun h => absurd h (by simp)
theorem Zs.below {w W : World} {B : Nat} {A : Option Addr} {l : List Int} (h : Zs w B A l) (hb : Below B w W) : Zs W B A l := fun hl => by
  obtain ⟨b, o, h1, h2, h3⟩ := h hl
  exact ⟨b, o, h1, h2, fun i e he => (hb.cell (p := ⟨b, _, none⟩) h2).trans (h3 i e he)⟩
theorem Zs.mono {w : World} {B B' : Nat} {A : Option Addr} {l : List Int} (h : Zs w B A l) (hb : B ≤ B') : Zs w B' A l := fun hl => by
  obtain ⟨b, o, h1, h2, h3⟩ := h hl
  exact ⟨b, o, h1, Nat.lt_of_lt_of_le h2 hb, h3⟩
theorem Zs.later {w W : World} {B : Nat} {A : Option Addr} {l : List Int} (h : Zs w B A l) (hb : Below B w W) (hB : B ≤ w.heap.size) : Zs W W.heap.size A l := (h.below hb).mono (Nat.le_trans hB hb.size)
def zv (l : List Int) : List Value := l.map (Value.int .i64)
theorem z_set {w : World} {g t k : Nat} {l : List Int} {y : Int} (h : w.heap[g]? = some (.cells (zv l).toArray t (0, 0))) : (w.setCell ⟨g, k, none⟩ (.int .i64 y)).heap[g]? = some (.cells (zv (l.set k y)).toArray t (0, 0)) := by
  rw [heap_setCell_same w g k _ t _ h]
  congr 2
  simp [zv, List.map_set]
theorem z_cell {w : World} {g t k : Nat} {l : List Int} {x : Int} (h : w.heap[g]? = some (.cells (zv l).toArray t (0, 0))) (hk : l[k]? = some x) : w.cell? ⟨g, k, none⟩ = some (.int .i64 x) := by
  rw [cell_of_row w g k _ _ _ h]
  simp [zv, hk]
theorem z_zs {w : World} {g t : Nat} {l : List Int} (h : w.heap[g]? = some (.cells (zv l).toArray t (0, 0))) : Zs w w.heap.size (some ⟨g, 0, none⟩) l :=
  fun _ => ⟨g, 0, rfl, lt_of_block h, fun i x hi => by rw [Nat.zero_add]; exact z_cell h hi⟩
theorem info3 : (Try.prog.info? 3).map (fun i => (i.zero, i.size, i.bytes)) = some (some (.int .i64 0), 1, 8) := by kernel_rfl
theorem mkInt (n : Nat) : madeCells #[.int .i64 0] n = (zv (List.replicate n 0)).toArray := by
  apply Array.ext
  · simp [madeCells, zv]
  · intro i h1 h2
    simp [madeCells, zv, Nat.mod_one]
theorem Zs.set {w : World} {B b o g i : Nat} {l : List Int} {u : Value} (h : Zs w B (some ⟨b, o, none⟩) l) (hne : b ≠ g) : Zs (w.setCell ⟨g, i, none⟩ u) B (some ⟨b, o, none⟩) l := fun hl => by
  obtain ⟨b', o', h1, h2, h3⟩ := h hl
  injection h1 with h1
  injection h1 with h1 h1'
  subst h1 h1'
  refine ⟨b, o, rfl, h2, fun j x hj => ?_⟩
  rw [World.cell?_of_block (Below.heap_setCell _ _ _ _ (by show b ≠ g; exact hne))]
  exact h3 j x hj
/-- The places that are laid already, and zeros. -/
def rowP (l : List Int) (k : Nat) : List Int := l.take k ++ List.replicate (l.length - k) 0
theorem rowP_len (l : List Int) (k : Nat) (hk : k ≤ l.length) : (rowP l k).length = l.length := by unfold rowP; rw [List.length_append, List.length_take, List.length_replicate]; omega
theorem rowP_succ (l : List Int) (k : Nat) (x : Int) (hk : l[k]? = some x) : (rowP l k).set k x = rowP l (k + 1) := by
  obtain ⟨hlt, hx⟩ := List.getElem?_eq_some_iff.1 hk
  have ht : (l.take k).length = k := by rw [List.length_take]; omega
  unfold rowP
  rw [show l.length - k = (l.length - (k + 1)) + 1 by omega, List.replicate_succ, List.set_append_right _ _ (by omega), ht, Nat.sub_self, List.set_cons_zero, List.take_add_one, hk, List.append_assoc]
  rfl

set_option maxHeartbeats 4000000 in
theorem places_any (A : Option Addr) (n c : Nat) (l : List En) (w : World) (hn : n = l.length) (hE : Es w w.heap.size A l) (hl : n ≤ 1000) :
    Calls Try.prog 44 #[.slice A n c] w fun r w' => (∃ A' c', r = .returned (.slice A' n c') ∧ A' = some ⟨w.heap.size, 0, none⟩ ∧ Zs w' w'.heap.size A' (l.map (·.p))) ∧ Below w.heap.size w w' := by
  obtain ⟨ps, hps⟩ : ∃ ps, ps = l.map (·.p) := ⟨_, rfl⟩
  have hpl : ps.length = n := by rw [hps, List.length_map, hn]
  obtain ⟨w0, hw0⟩ : ∃ w0, w0 = w.alloc (.cells (zv (List.replicate n 0)).toArray 3) := ⟨_, rfl⟩
  have hmk : (Instr.makeSlice 38 (.int .i64 (n : Int)) (.int .i64 (n : Int))).run Try.prog w = .ok (.slice (some ⟨w.heap.size, 0, none⟩) n n) w0 := by
    rw [hw0, ← mkInt n]
    exact run_make_row' (P := Try.prog) 38 3 (.int .i64 0) 8 Try.underlying38 info3 rfl .i64 .i64 n (by omega) (by omega) w
  have hq0 : w0.heap[w.heap.size]? = some (.cells (zv (rowP ps 0)).toArray 3 (0, 0)) := by
    rw [hw0, show rowP ps 0 = List.replicate n 0 by simp [rowP, hpl]]
    exact heap_alloc_new w _
  have hb0 : Below w.heap.size w w0 := by rw [hw0]; exact (Below.refl _ _).alloc (Nat.le_refl _) _
  have HB0 := Lib.hid hb0
  have HQ0 := Lib.hid hq0
  have HE := Lib.hid hE
  have HN := Lib.hid hn
  have HPL := Lib.hid hpl
  have HPS : Hid (∀ (k : Nat) (e : En), l[k]? = some e → ps[k]? = some e.p) := fun k e he => by rw [hps, List.getElem?_map, he]; rfl
  rw [← hps]
  clear hw0 hq0 hb0 hE hn hps hpl
  go_enter Try.func44, Try.ntmps44
  go_wp2
  go_loopw [11] (fun u wr => ∃ k : Nat, k ≤ n ∧ u = .int .i64 (k : Int) ∧ Hid (wr.heap[w.heap.size]? = some (.cells (zv (rowP ps k)).toArray 3 (0, 0)) ∧ Below w.heap.size w wr)) (fun u _ => n - (intOf u).toNat)
  case atStart => exact ⟨0, by omega, rfl, HQ0.out, HB0.out⟩
  case round =>
    obtain ⟨k, hk, rfl, HV⟩ := hrel
    by_cases hlt : k < n
    · obtain ⟨e, hy⟩ : ∃ e, l[k]? = some e := ⟨l[k]'(by rw [← HN.out]; exact hlt), List.getElem?_eq_getElem _⟩
      obtain ⟨b1, o1, rfl, hb1, ha1⟩ := (HE.out.below HV.out.2) (by have := HN.out; omega)
      obtain ⟨d0, d1, d2, d3⟩ := ha1 k _ hy
      have HSU := Lib.hid (rowP_succ ps k e.p (HPS.out k e hy))
      obtain ⟨w1, hw1⟩ : ∃ w1, w1 = wr.alloc (.cells (ec e).toArray 80) := ⟨_, rfl⟩
      have hg1 : w1.heap[wr.heap.size]? = some (.cells (ec e).toArray 80 (0, 0)) := by rw [hw1]; exact heap_alloc_new wr _
      have hb1' : Below wr.heap.size wr w1 := by rw [hw1]; exact (Below.refl _ _).alloc (Nat.le_refl _) _
      have g0 := cell_of_row w1 wr.heap.size 0 _ _ _ hg1
      simp [ec] at g0
      have hq1 : w1.heap[w.heap.size]? = some (.cells (zv (rowP ps k)).toArray 3 (0, 0)) := (hb1'.block _ (lt_of_block HV.out.1)).trans HV.out.1
      have hcw : ∃ x, w1.cell? ⟨w.heap.size, k, none⟩ = some (.int .i64 x) := by
        have hkl : k < (rowP ps k).length := by rw [rowP_len _ _ (by rw [HPL.out]; omega), HPL.out]; exact hlt
        exact ⟨_, z_cell hq1 (List.getElem?_eq_getElem hkl)⟩
      obtain ⟨x, hcx⟩ := hcw
      have hfw := frozen_of_row w1 w.heap.size k _ _ hq1
      have HQ1 := Lib.hid (z_set (k := k) (y := e.p) hq1)
      have HBB : Hid (Below w.heap.size w (w1.setCell ⟨w.heap.size, k, none⟩ (.int .i64 e.p))) := (HV.out.2.trans (hb1'.mono HV.out.2.size)).setCell (Nat.le_refl _) _
      have H1 := Lib.hid hw1
      simp only [ec] at H1
      clear ha1 hy hb1 hw1 hg1 hb1' hq1
      go_upto_region 5 with (fail)
      rw [← H1.out]
      go_wp2
      go_roundw
      case rel => exact ⟨k + 1, by omega, by go_num, by
        simp only [Hid]
        rw [← HSU.out]
        exact ⟨HQ1.out, HBB.out⟩⟩
      case measure => simp [intOf] <;> omega
    · have hkn : k = n := by omega
      subst hkn
      have HZ : Hid (Zs wr wr.heap.size (some ⟨w.heap.size, 0, none⟩) ps) := by
        have h := HV.out.1
        rw [show rowP ps k = ps by unfold rowP; rw [HPL.out, Nat.sub_self, List.replicate_zero, List.append_nil, List.take_of_length_le (by rw [HPL.out]; exact Nat.le_refl _)]] at h
        exact z_zs h
      go_wp2
      go_ret
      exact ⟨⟨_, _, rfl, rfl, HZ.out⟩, HV.out.2⟩
end Go.Proofs.Ytnloikdfbdpilaa
