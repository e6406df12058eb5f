/- Board: slices.SortFunc at changes, laid off the shelf. -/
import Derived.Test.YtaoejkbockcneaaU9
import Derived.Shelf.SlSortCmp.WholeK
import Derived.Shelf.Lay
import Derived.Ground.SlsfProg
namespace Go.Proofs.Ytaoejkbockcneaa.Bd
open Go.Shelf Go.RowKit Go.Lib Go.Sort
set_option maxRecDepth 20000
set_option linter.unusedVariables false

shelf_lay_g SlLaysF0.n6 Slsf 6 at Try 50 as Bd.sortCh
def cmp3 (x y : Int) : Int := if x < y then -1 else if y < x then 1 else 0
def encC (x : Int × Int) : List Value := [.int .u32 x.1, .int .i64 x.2]
theorem nan_any (a : Int) (W : World) : Calls Try.prog 69 #[.int .u32 a] W fun e w' => e = .returned (.bool false) ∧ w' = W := by
  go_enter Try.func69, Try.ntmps69
  go_wp2
  go_ret
  first | exact ⟨rfl, rfl⟩ | exact ⟨by simp, rfl⟩
theorem compare_any (a b : Int) (W : World) : Calls Try.prog 52 #[.int .u32 a, .int .u32 b] W fun e w' => e = .returned (.int .i64 (cmp3 a b)) ∧ w' = W := by
  have HA := Lib.hid (nan_any a)
  have HB := Lib.hid (nan_any b)
  by_cases h1 : a < b
  · have t1 : decide (a < b) = true := by rw [decide_eq_true_iff]; exact h1
    have HE := Lib.hid (show cmp3 a b = -1 by simp [cmp3, h1])
    clear h1
    go_enter Try.func52, Try.ntmps52
    go_wp2_with fail
    refine (HA.out _).mono ?_
    rintro e w' ⟨rfl, rfl⟩
    go_wp2_with fail
    refine (HB.out _).mono ?_
    rintro e w' ⟨rfl, rfl⟩
    go_wp2
    go_ret
    exact ⟨by rw [HE.out]; rfl, rfl⟩
  · have t1 : decide (a < b) = false := by rw [decide_eq_false_iff_not]; exact h1
    by_cases h2 : b < a
    · have t2 : decide (a > b) = true := by rw [decide_eq_true_iff]; exact h2
      have HE := Lib.hid (show cmp3 a b = 1 by simp [cmp3, h1, h2])
      clear h1 h2
      go_enter Try.func52, Try.ntmps52
      go_wp2_with fail
      refine (HA.out _).mono ?_
      rintro e w' ⟨rfl, rfl⟩
      go_wp2_with fail
      refine (HB.out _).mono ?_
      rintro e w' ⟨rfl, rfl⟩
      go_wp2
      go_ret
      exact ⟨by rw [HE.out]; rfl, rfl⟩
    · have t2 : decide (a > b) = false := by rw [decide_eq_false_iff_not]; exact h2
      have HE := Lib.hid (show cmp3 a b = 0 by simp [cmp3, h1, h2])
      clear h1 h2
      go_enter Try.func52, Try.ntmps52
      go_wp2_with fail
      refine (HA.out _).mono ?_
      rintro e w' ⟨rfl, rfl⟩
      go_wp2_with fail
      refine (HB.out _).mono ?_
      rintro e w' ⟨rfl, rfl⟩
      go_wp2
      go_ret
      exact ⟨by rw [HE.out]; rfl, rfl⟩
set_option maxHeartbeats 1000000 in
theorem closure51 (x y : Int × Int) (W : World) : Calls Try.prog 51 #[.agg #[.int .u32 x.1, .int .i64 x.2], .agg #[.int .u32 y.1, .int .i64 y.2]] W fun e w' => e = .returned (.int .i64 (cmp3 x.1 y.1)) ∧ ∃ q os', w' = grow (W.drewN q) os' := by
  have hcon := fun W' => compare_any x.1 y.1 W'
  generalize cmp3 x.1 y.1 = r at hcon ⊢
  go_enter Try.func51, Try.ntmps51
  go_wp2_with (go_at_call 52; refine (hcon _).mono ?_; rintro e w' ⟨rfl, rfl⟩)
  go_ret
  exact ⟨rfl, 0, _, by rw [alloc_eq_grow, alloc_eq_grow, grow_grow]; rfl⟩
theorem lt3 (x y : Int × Int) : ltOf (fun x y : Int × Int => cmp3 x.1 y.1) x y = decide (x.1 < y.1) := by
  unfold ltOf cmp3
  by_cases h1 : x.1 < y.1
  · simp [h1]
  · by_cases h2 : y.1 < x.1 <;> simp [h1, h2]
theorem swo3 : SWO (ltOf fun x y : Int × Int => cmp3 x.1 y.1) where
  irrefl x := by rw [lt3]; simp
  trans x y z h1 h2 := by rw [lt3] at *; simp at *; omega
  ntrans x y z h1 h2 := by rw [lt3] at *; simp at *; omega
theorem agg95 : ∀ w, (isAgg 95).run Try.prog w = .ok true w := fun w => by kernel_rfl
theorem size95 : ∀ w, (Go.sizeOf 95).run Try.prog w = .ok 2 w := fun w => by kernel_rfl
theorem below_sort (W : World) (g n : Nat) (d : Array (Int × Int)) (os : Array Obj) (hg : g < W.heap.size) : RowKit.Below g W (sortWorldK encC 2 W g 0 n d os) := by
  refine ⟨rfl, rfl, rfl, size_sortWorldK_c encC 2 W g 0 n d os, fun k hk => ?_⟩
  have e : (sortWorldK encC 2 W g 0 n d os).heap = (W.heap.modify g (onCells (putCells id 0 (flatK encC 2 d)))) ++ os := rfl
  rw [e, Array.getElem?_append_left (by simp; omega), Array.getElem?_modify, if_neg (by omega)]
set_option maxHeartbeats 1000000 in
theorem sortOk : SortOk := by
  intro g c l W cur hb hr hl
  have eg : ∀ args w, (callFunc 51 args).run Try.prog w = .ok (.enter 51 args) w := enters_of Try.func51 (by kernel_rfl) rfl
  have hlt := lt_of_block hb
  have hH : HoldsK encC 2 W g 0 l.toArray := fun j hj => by
    have hj' : j < l.length * 2 := by simpa using hj
    obtain ⟨h0, h1⟩ := hr (j / 2) (l[j / 2]'(by omega)) (List.getElem?_eq_getElem _)
    refine ⟨?_, frozen_of_row W g _ _ _ hb⟩
    rw [get_flatK _ _ _ _ (by simpa using hj')]
    have hg : (l.toArray)[j / 2]! = l[j / 2]'(by omega) := by simp [show j / 2 < l.length by omega]
    rw [hg]
    rcases Nat.mod_two_eq_zero_or_one j with h | h
    · rw [show 0 + j = j / 2 * 2 by omega, h0, h]; rfl
    · rw [show 0 + j = j / 2 * 2 + 1 by omega, h1, h]; rfl
  have h := AnyQ.slices_SortFunc Bd.sortCh 2 agg95 size95 encC (fun _ => rfl) (fun x v hv => by simp [encC] at hv; rcases hv with rfl | rfl <;> rfl) (fun x y => cmp3 x.1 y.1) swo3 51 #[] g 0 c l.toArray W eg (fun _ _ _ _ x y => closure51 x y _) hH hlt (by simp; omega)
  have h' : Calls Try.prog 50 #[.slice (some ⟨g, 0, none⟩) l.toArray.size c, .func (.func 51) #[] #[]] W _ := h
  simp only [List.size_toArray] at h'
  refine h'.mono ?_
  rintro e w' ⟨rfl, d', n, os, hp, hs, rfl⟩
  have hsz : d'.size = l.length := by simpa using hp.1
  have hH' := holdsK_sortWorldK encC 2 W g 0 n l.toArray d' os hlt hH (by simpa using hsz)
  refine ⟨rfl, ⟨d'.toList, ?_, ?_, fun i x hx => ?_⟩, below_sort W g n d' os hlt, lt_sortWorldK encC 2 W g 0 n d' os hlt⟩
  · have h3 := hp.2.2
    simp at h3
    rw [List.take_of_length_le (by simp [hsz])] at h3
    exact h3.symm
  · rw [List.pairwise_map, List.pairwise_iff_getElem]
    intro i j hi hj hij
    simp at hi hj
    have h3 := hs i j (Nat.zero_le _) hij (by omega)
    rw [lt3, getElem!_pos d' i hi, getElem!_pos d' j hj] at h3
    simp at h3
    simpa using h3
  · rw [Array.getElem?_toList] at hx
    obtain ⟨hi, hx'⟩ := Array.getElem?_eq_some_iff.1 hx
    have e0 := (hH'.cell (i := i) (c := 0) hi (by omega)).1
    have e1 := (hH'.cell (i := i) (c := 1) hi (by omega)).1
    have hg : d'[i]! = x := by rw [getElem!_pos d' i hi]; exact hx'
    rw [hg] at e0 e1
    rw [Nat.zero_add] at e0 e1
    exact ⟨e0, e1⟩
end Go.Proofs.Ytaoejkbockcneaa.Bd
