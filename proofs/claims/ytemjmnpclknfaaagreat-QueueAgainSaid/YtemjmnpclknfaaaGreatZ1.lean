/- Sort at uint32: a row of numbers in memory; less; insertionSort. -/
import Derived.Test.YtemjmnpclknfaaaGreatZ0
import Derived.Sort.Statements
import Derived.BigGuard
import Derived.BigCall
import Derived.Deep.Draws
import Derived.Deep.QuietTactic
import Derived.BigQuiet
import Derived.CellFam
namespace Go.Proofs.YtemjmnpclknfaaaGreat.Z
open Go.RowKit
set_option maxRecDepth 20000
set_option linter.unusedVariables false

/-- The order of numbers. -/
def ltN (a b : Nat) : Bool := decide (a < b)
/-- The numbers d lie in block g, behind pre, ahead of post; what lies below g is as in w0. -/
def Sr (w0 : World) (g : Nat) (pre post : List Value) (d : Array Nat) (w : World) : Prop := Below g w0 w ∧ w.heap[g]? = some (.cells (pre ++ un d.toList ++ post).toArray 33 (0, 0))
theorem row_set (pre post : List Value) (l : List Nat) (i x : Nat) (h : i < l.length) : (pre ++ un l ++ post).set (pre.length + i) (.int .u32 (x : Int)) = pre ++ un (l.set i x) ++ post := by
  rw [List.append_assoc, List.set_append_right _ _ (by omega), Nat.add_sub_cancel_left, List.set_append_left _ _ (by simp [un]; exact h), ← List.append_assoc]
  simp [un, List.map_set]
theorem row_get (pre post : List Value) (l : List Nat) (i x : Nat) (h : l[i]? = some x) : (pre ++ un l ++ post)[pre.length + i]? = some (.int .u32 (x : Int)) := by
  have hi := (List.getElem?_eq_some_iff.1 h).1
  rw [List.append_assoc, List.getElem?_append_right (by omega), Nat.add_sub_cancel_left, List.getElem?_append_left (by simp [un]; exact hi)]
  simp [un, h]
theorem Sr.read {w0 w : World} {g o : Nat} {pre post : List Value} {d : Array Nat} (h : Sr w0 g pre post d w) (ho : o = pre.length) (i : Nat) (hi : i < d.size) : w.cell? ⟨g, o + i, none⟩ = some (.int .u32 ((d[i]! : Nat) : Int)) := by
  rw [cell_of_row w g _ _ _ _ h.2, List.getElem?_toArray, ho]
  exact row_get pre post d.toList i d[i]! (by rw [Array.getElem?_toList, getElem!_pos d i hi]; exact Array.getElem?_eq_getElem hi)
theorem Sr.free {w0 w : World} {g : Nat} {pre post : List Value} {d : Array Nat} (h : Sr w0 g pre post d w) (i : Nat) : w.frozen? ⟨g, i, none⟩ = false := frozen_of_row w g i _ _ h.2
theorem below_drewN {B : Nat} {a w : World} (h : Below B a w) (q : Nat) : Below B a (w.drewN q) := ⟨h.os, h.tape, h.output, h.size, h.block⟩
theorem Sr.drewN {w0 w : World} {g : Nat} {pre post : List Value} {d : Array Nat} (h : Sr w0 g pre post d w) (q : Nat) : Sr w0 g pre post d (w.drewN q) := ⟨below_drewN h.1 q, h.2⟩
theorem Sr.drew {w0 w : World} {g : Nat} {pre post : List Value} {d : Array Nat} (h : Sr w0 g pre post d w) : Sr w0 g pre post d w.drew := ⟨h.1.drew, h.2⟩
theorem Sr.set {w0 w : World} {g o : Nat} {pre post : List Value} {d : Array Nat} (h : Sr w0 g pre post d w) (ho : o = pre.length) (i x : Nat) (hi : i < d.size) : Sr w0 g pre post (d.setIfInBounds i x) (w.setCell ⟨g, o + i, none⟩ (.int .u32 (x : Int))) := by
  refine ⟨h.1.setCell (Nat.le_refl _) _, ?_⟩
  rw [heap_setCell_same w g (o + i) _ 33 _ h.2, List.setIfInBounds_toArray, ho, row_set pre post d.toList i x (by simpa using hi), Array.toList_setIfInBounds]
theorem Sr.swap {w0 w : World} {g o : Nat} {pre post : List Value} {d : Array Nat} (h : Sr w0 g pre post d w) (ho : o = pre.length) (i j : Nat) (hi : i < d.size) (hj : j < d.size) (x y : Int) (hx : x = (d[j]! : Nat)) (hy : y = (d[i]! : Nat)) : Sr w0 g pre post (Sort.swp d i j) ((w.setCell ⟨g, o + i, none⟩ (.int .u32 x)).setCell ⟨g, o + j, none⟩ (.int .u32 y)) := by
  subst hx hy
  exact (h.set ho i d[j]! hi).set ho j d[i]! (by rw [Array.size_setIfInBounds]; exact hj)
theorem swp_size (d : Array Nat) (i j : Nat) : (Sort.swp d i j).size = d.size := by simp [Sort.swp]
theorem lessI (x y : Int) (w : World) : Calls Tryz.prog 72 #[.int .u32 x, .int .u32 y] w fun e w' => e = .returned (.bool (decide (x < y))) ∧ w' = w := by
  have nanI : ∀ (x : Int) (w : World), Calls Tryz.prog 68 #[.int .u32 x] w fun r w' => r = .returned (.bool false) ∧ w' = w := fun x w => by
    go_enter Tryz.func68, Tryz.ntmps68
    go_wp2
    go_ret
    exact ⟨by simp, rfl⟩
  go_enter Tryz.func72, Tryz.ntmps72
  go_wp2_with (go_at_call 68; refine (nanI _ _).mono ?_; rintro e w' ⟨rfl, rfl⟩)
  go_ret
  exact ⟨rfl, rfl⟩
theorem lt_cast (d : Array Nat) (i j : Nat) : decide (((d[i]! : Nat) : Int) < ((d[j]! : Nat) : Int)) = ltN d[i]! d[j]! := by simp [ltN]
theorem ins_size (a : Nat) : ∀ (j : Nat) (d : Array Nat), (Sort.insInner ltN a j d).size = d.size
  | 0, d => rfl
  | j + 1, d => by
    rw [Sort.insInner]
    split
    · rw [ins_size a j, swp_size]
    · rfl
theorem insInner_stop (a j : Nat) (d : Array Nat) (h : ¬ (a < j ∧ ltN d[j]! d[j - 1]! = true)) : Sort.insInner ltN a j d = d := by
  cases j with
  | zero => rfl
  | succ j =>
    rw [Sort.insInner, if_neg]
    simp only [Nat.add_sub_cancel] at h
    simp only [Bool.and_eq_true, decide_eq_true_eq, gt_iff_lt]
    exact h
theorem insInner_go (a j : Nat) (d : Array Nat) (h1 : a < j) (h2 : ltN d[j]! d[j - 1]! = true) : Sort.insInner ltN a j d = Sort.insInner ltN a (j - 1) (Sort.swp d j (j - 1)) := by
  obtain ⟨k, rfl⟩ : ∃ k, j = k + 1 := ⟨j - 1, by omega⟩
  simp only [Nat.add_sub_cancel] at h2 ⊢
  rw [Sort.insInner, if_pos]
  simp only [Bool.and_eq_true, decide_eq_true_eq, gt_iff_lt]
  exact ⟨h1, h2⟩

/-- What a function of the sort leaves. -/
def SrPost (w0 : World) (g : Nat) (pre post : List Value) (d : Array Nat) (r : Ending) (w' : World) : Prop := r = .returned (.tuple #[]) ∧ Sr w0 g pre post d w'

set_option maxHeartbeats 4000000 in
theorem ins_any (a b g o n cap : Nat) (pre post : List Value) (d : Array Nat) (w0 w : World) (h : Sr w0 g pre post d w) (ho : o = pre.length) (hn : n = d.size) (hab : a ≤ b) (hb : b ≤ n) (hsz : n < 4611686018427387904) :
    Calls Tryz.prog 99 #[.slice (some ⟨g, o, none⟩) n cap, .int .i64 (a : Int), .int .i64 (b : Int)] w (SrPost w0 g pre post (Sort.insertionSort ltN d a b)) := by
  have HN := Lib.hid h
  have HO := Lib.hid ho
  have HD := Lib.hid hn
  obtain ⟨T, hT⟩ : ∃ T, T = Sort.insertionSort ltN d a b := ⟨_, rfl⟩
  rw [← hT]
  have HT : Hid (Sort.insOuter ltN a b (a + 1) d = T) := by rw [hT]; rfl
  clear h ho hn hT
  go_enter Tryz.func99, Tryz.ntmps99
  go_wp2
  go_loopw [6] (fun vi wr => ∃ (i : Nat) (cur : Array Nat), vi = .int .i64 (i : Int) ∧ a < i ∧ i ≤ b + 1 ∧ Hid (cur.size = n ∧ Sort.insOuter ltN a b i cur = T ∧ Sr w0 g pre post cur wr)) (fun vi _ => b + 1 - (intOf vi).toNat)
  case atStart => exact ⟨a + 1, d, by go_num, by omega, by omega, HD.out.symm, HT.out, HN.out⟩
  case round =>
    obtain ⟨i, cur, rfl, hi0, hin, HV⟩ := hrel
    go_wp2
    · have hlt : i < b := by assumption
      go_loopw [7] (fun vj wr2 => ∃ (j : Nat) (cu2 : Array Nat), vj = .int .i64 (j : Int) ∧ a ≤ j ∧ j ≤ i ∧ Hid (cu2.size = n ∧ Sort.insInner ltN a j cu2 = Sort.insInner ltN a i cur ∧ Sr w0 g pre post cu2 wr2)) (fun vj _ => (intOf vj).toNat)
      case atStart => exact ⟨i, cur, rfl, by omega, Nat.le_refl _, HV.out.1, rfl, HV.out.2.2⟩
      case round =>
        obtain ⟨j, cu2, rfl, haj, hji, HU⟩ := hrel
        obtain ⟨G, hG⟩ : ∃ G : Nat → Int, G = fun t => ((cu2[t]! : Nat) : Int) := ⟨_, rfl⟩
        have hcw : ∀ t, t < n → wr.cell? ⟨g, o + t, none⟩ = some (.int .u32 (G t)) := fun t ht => by rw [hG]; exact HU.out.2.2.read HO.out t (by rw [HU.out.1]; exact ht)
        have hfw : ∀ t, t < n → wr.frozen? ⟨g, o + t, none⟩ = false := fun t _ => HU.out.2.2.free _
        have HGE := Lib.hid hG
        clear hG
        have HDONE : Hid (¬ (a < j ∧ G j < G (j - 1)) → Sort.insOuter ltN a b (i + 1) cu2 = T ∧ cu2.size = n) := fun hne => by
          have e : Sort.insInner ltN a j cu2 = cu2 := insInner_stop a j cu2 (fun hh => hne ⟨hh.1, by rw [HGE.out]; have := hh.2; simp [ltN] at this; simpa using this⟩)
          have e2 := HV.out.2.1
          rw [Sort.insOuter, if_pos hlt, ← HU.out.2.1, e] at e2
          exact ⟨e2, HU.out.1⟩
        go_wp2
        by_cases hja : a < j
        · go_quiet (first | (go_at_call 72; refine Calls.quiet_of_same (lessI _ _ _)))
          go_wp2
          · have hless : G j < G (j - 1) := by assumption
            have HSW : Hid (Sort.insInner ltN a (j - 1) (Sort.swp cu2 j (j - 1)) = Sort.insInner ltN a i cur ∧ (Sort.swp cu2 j (j - 1)).size = n) := by
              have hl : ltN cu2[j]! cu2[j - 1]! = true := by rw [HGE.out] at hless; simpa [ltN] using hless
              exact ⟨by rw [← insInner_go a j cu2 hja hl]; exact HU.out.2.1, by rw [swp_size]; exact HU.out.1⟩
            go_region
            all_goals go_wp2
            go_roundw
            case rel => exact ⟨j - 1, Sort.swp cu2 j (j - 1), by congr 1; omega, by omega, by omega, HSW.out.2, HSW.out.1, (HU.out.2.2.drewN _).swap HO.out j (j - 1) (by rw [HU.out.1]; omega) (by rw [HU.out.1]; omega) _ _ (by rw [HGE.out]) (by rw [HGE.out])⟩
            case measure => simp [intOf]; omega
          · have HE := Lib.hid (HDONE.out (fun hh => by omega))
            go_roundw
            case rel => exact ⟨i + 1, cu2, by go_num, by omega, by omega, HE.out.2, HE.out.1, HU.out.2.2.drewN _⟩
            case measure => simp [intOf]; omega
        · have HE := Lib.hid (HDONE.out (fun hh => hja hh.1))
          go_quiet (first | (go_at_call 72; refine Calls.quiet_of_same (lessI _ _ _)))
          go_wp2
          go_roundw
          case rel => exact ⟨i + 1, cu2, by go_num, by omega, by omega, HE.out.2, HE.out.1, HU.out.2.2.drewN _⟩
          case measure => simp [intOf]; omega
    · have HE : Hid (cur = T) := by
        have e := HV.out.2.1
        rw [Sort.insOuter, if_neg (by omega)] at e
        exact e
      go_end0
      exact ⟨rfl, by rw [← HE.out]; exact HV.out.2.2⟩
end Go.Proofs.YtemjmnpclknfaaaGreat.Z
