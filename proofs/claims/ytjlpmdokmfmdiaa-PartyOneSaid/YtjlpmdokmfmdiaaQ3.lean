/- Party: a list without a number. -/
import Derived.Test.YtjlpmdokmfmdiaaQ1
import Derived.Test.YtjlpmdokmfmdiaaQ2
import Derived.Shelf.SlicesE.DeleteFunc
import Derived.Shelf.Lay
import Derived.Ground.SlgfProg
import Derived.Lib.OwnBridge
namespace Go.Proofs
open Go.Shelf
shelf_lay_g SlLaysH.n10 Slgf 10 at Try 95 as Ytjlpmdokmfmdiaa.P.dfU
namespace Ytjlpmdokmfmdiaa.P
open Go.RowKit Go.Lib Go.Sort
set_option maxRecDepth 20000
set_option linter.unusedVariables false
set_option linter.unusedSimpArgs false

abbrev encU : Nat → Value := fun x => .int .u32 (x : Int)
theorem zeroU (w : World) : (zeroValue 26).run Try.prog w = .ok (encU 0) w := by kernel_rfl
theorem eg129 : ∀ args w, (callFunc 129 args).run Try.prog w = .ok (.enter 129 args) w := enters_of Try.func129 (by kernel_rfl) rfl
theorem gives129 (p x K : Nat) (W : World) (hc : W.cell? ⟨K, 0, none⟩ = some (.int .u32 (p : Int))) :
    FnGives Try.prog 129 #[.pointer (some ⟨K, 0, none⟩)] #[encU x] (.bool (decide (x = p))) W := by
  show Calls Try.prog 129 #[.int .u32 (x : Int), .pointer (some ⟨K, 0, none⟩)] W _
  by_cases h : x = p
  · subst h
    go_enter Try.func129, Try.ntmps129
    go_wp2
    go_ret
    exact ⟨by simp, 0, rfl⟩
  · have h' : ¬((x : Int) = (p : Int)) := by omega
    go_enter Try.func129, Try.ntmps129
    go_wp2
    go_ret
    exact ⟨by simp [h] <;> exact h', 0, rfl⟩
set_option maxHeartbeats 2000000 in
theorem idx_nil (f : Value) (w : World) : Calls Try.prog 62 #[.slice none 0 0, f] w fun r w' => r = .returned (.int .i64 (-1)) ∧ Below w.heap.size w w' := by
  have HBr : Hid (Below w.heap.size w w) := Below.refl _ _
  go_enter Try.func62, Try.ntmps62
  go_wp2_with fail
  go_loopw [8] (fun u wr => u = .int .i64 0 ∧ Hid (Below w.heap.size w wr)) (fun u _ => 0)
  case atStart => exact ⟨rfl, HBr.out⟩
  case round =>
    obtain ⟨rfl, HV⟩ := hrel
    go_wp2
    go_ret
    exact ⟨rfl, HV.out⟩
set_option maxHeartbeats 2000000 in
theorem del_nil (f : Value) (w : World) : Calls Try.prog 95 #[.slice none 0 0, f] w fun r w' => r = .returned (.slice none 0 0) ∧ Below w.heap.size w w' := by
  have HC := Lib.hid (idx_nil f w)
  go_enter Try.func95, Try.ntmps95
  go_wp2_with fail
  refine HC.out.mono ?_
  rintro r w1 ⟨rfl, hb⟩
  have HB := Lib.hid hb
  clear hb
  go_wp2
  go_ret
  exact ⟨rfl, HB.out⟩
theorem wo_eq (l : List Nat) (p : Nat) : (l.filter fun x => !decide (x = p)) = wo l p := by unfold wo; congr 1; funext x; simp
/-- DeleteFunc of a number, at a row of one's own. -/
theorem del_own (B K p : Nat) (v : Value) (l : List Nat) (w : World) (h : w.ownsRow B 26 1 v l.length (un l)) (hK : K < B) (hB : B ≤ w.heap.size) (hc : w.cell? ⟨K, 0, none⟩ = some (.int .u32 (p : Int))) :
    Calls Try.prog 95 #[v, .func (.func 129) #[] #[.pointer (some ⟨K, 0, none⟩)]] w fun r w' => ∃ A c, r = .returned (.slice A (wo l p).length c) ∧ w'.ownsRow B 26 1 (.slice A (wo l p).length c) (wo l p).length (un (wo l p)) ∧ Below B w w' := by
  by_cases hv : v = .slice none 0 0
  · subst hv
    have hl : l = [] := by
      rcases h.2 with ⟨_, h0⟩ | ⟨g, cap, cur, e, _⟩
      · exact List.eq_nil_of_length_eq_zero h0
      · cases e
    subst hl
    exact (del_nil _ w).mono fun r w' ⟨h1, h2⟩ => ⟨_, _, h1, World.ownsRow_nil w' B 26 1, h2.mono hB⟩
  · have h : w.ownsRow B 26 1 v l.length (l.map encU) := h
    obtain ⟨g, cap, rfl, hg, hgs, hn, hm, hlen, hH⟩ := holds_of_ownsRow h hv
    have hp : PredAt Try.prog 129 #[.pointer (some ⟨K, 0, none⟩)] encU (fun x => decide (x = p)) w := fun W x hb => gives129 p x K W ((hb.cell (p := ⟨K, 0, none⟩) (by show K < _; omega)).trans hc)
    have ho : PredOver Try.prog 129 #[.pointer (some ⟨K, 0, none⟩)] encU (fun x => decide (x = p)) g 0 l.toArray.size w := fun n os dk x _ => gives129 p x K _ (by
      unfold sortWorld
      rw [cell?_grow _ _ _ (by show K < (putRow _ _ _ _ _).heap.size; rw [size_putRow]; show K < w.heap.size; omega), cell?_putRow_other _ _ g 0 _ _ (Or.inl (by show K ≠ g; omega))]
      exact hc)
    have hcon := AnyE.slices_DeleteFunc dfU encU (fun _ => rfl) (fun x => decide (x = p)) 129 #[.pointer (some ⟨K, 0, none⟩)] eg129 0 zeroU g 0 cap l.toArray w hp ho hH (by simp only [maxLen] at hm; simp; omega) (by simpa using hn)
    rw [show l.toArray.toList = l from rfl, wo_eq] at hcon
    have hsz : l.toArray.size = l.length := rfl
    rw [hsz] at hcon
    refine hcon.mono ?_
    rintro r w' ⟨rfl, q, rfl⟩
    have hle := wo_len l p
    refine ⟨_, _, rfl, ?_, below_putRow (Below.refl _ _) hg⟩
    have := ownsRow_putRow (q := q) (k := (wo l p).length) (ys := wo l p ++ List.replicate (l.length - (wo l p).length) 0) h (by simp; omega) hle
    rw [List.take_left] at this
    exact this
set_option maxHeartbeats 2000000 in
theorem without_any (A : Option Addr) (n c : Nat) (l : List Nat) (p : Nat) (w : World) (hn : n = l.length) (hR : Rn w A l) (hl : n ≤ 1000) :
    Calls Try.prog 77 #[.slice A n c, .int .u32 (p : Int)] w fun r w' => ∃ A' c', r = .returned (.slice A' (wo l p).length c') ∧ w'.ownsRow w.heap.size 26 1 (.slice A' (wo l p).length c') (wo l p).length (un (wo l p)) ∧ Below w.heap.size w w' := by
  obtain ⟨w0, hw0⟩ : ∃ w0, w0 = w.alloc (.cells #[.int .u32 (p : Int)] 26) := ⟨_, rfl⟩
  have hb0 : Below w.heap.size w w0 := by rw [hw0]; exact (Below.refl _ _).alloc (Nat.le_refl _) _
  have hq0 : w0.heap[w.heap.size]? = some (.cells #[.int .u32 (p : Int)] 26 (0, 0)) := by rw [hw0]; exact heap_alloc_new w _
  have HC := Lib.hid (clone_rn A n c l w0 hn (hR.after hb0) (by omega))
  have H0 := Lib.hid hw0
  have HQ0 := Lib.hid hq0
  have HB0 := Lib.hid hb0
  have HN := Lib.hid hn
  obtain ⟨m, hm⟩ : ∃ m, m = (wo l p).length := ⟨_, rfl⟩
  have HM := Lib.hid hm
  rw [← hm]
  clear hw0 hq0 hb0 hR hn hm
  go_enter Try.func77, Try.ntmps77
  go_upto_region 1 with (fail)
  rw [← H0.out]
  go_wp2_with fail
  refine HC.out.mono ?_
  rintro r w1 ⟨A1, c1, rfl, ho, hb⟩
  have hK := lt_of_block HQ0.out
  have HD := Lib.hid (del_own w0.heap.size w.heap.size p (.slice A1 n c1) l w1 (by rw [HN.out] at ho ⊢; exact ho) hK hb.size ((cell_of_row w1 w.heap.size 0 _ _ _ ((hb.block _ hK).trans HQ0.out))))
  rw [← HM.out] at HD
  have HB1 : Hid (Below w.heap.size w w1) := HB0.out.trans (hb.mono HB0.out.size)
  have HS0 : Hid (w.heap.size ≤ w0.heap.size) := HB0.out.size
  clear ho hb hK
  go_wp2_with fail
  refine HD.out.mono ?_
  rintro r w2 ⟨A2, c2, rfl, ho, hb⟩
  have HO2 : Hid (w2.ownsRow w.heap.size 26 1 (.slice A2 m c2) m (un (wo l p))) := ⟨ho.1, ho.2.imp id fun ⟨g, cap, cur, e, h1, h2⟩ => ⟨g, cap, cur, e, Nat.le_trans HS0.out h1, h2⟩⟩
  have HB2 : Hid (Below w.heap.size w w2) := HB1.out.trans (hb.mono HS0.out)
  clear ho hb
  go_wp2
  go_ret
  exact ⟨_, _, rfl, HO2.out, HB2.out⟩
end Ytjlpmdokmfmdiaa.P
end Go.Proofs
