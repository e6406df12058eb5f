/- What the letters' widths and a shape's least bytes come to: contracts for field.width and field.Least. -/
import Derived.Test.YtaefgieodehceaaDoorRows
import Derived.WalkKit
import Derived.WalkSpells
import Derived.WalkLawsBesides
import Derived.Lib.Hide
namespace Go.Proofs.YtaefgieodehceaaDoor
set_option maxRecDepth 4000
open Go.RowKit

theorem ret_i64 {a b : Int} (h : a = b) : Ending.returned (.int .i64 a) = .returned (.int .i64 b) := by rw [h]

def wid (c : UInt8) : Nat :=
  if c.toNat = 98 then 1 else if c.toNat = 115 then 1 else if c.toNat = 108 then 1 else if c.toNat = 119 then 2 else if c.toNat = 100 then 4 else if c.toNat = 113 then 8 else 0

theorem wid_le (c : UInt8) : wid c ≤ 8 := by unfold wid; repeat (first | omega | split)

/-- The least bytes of a shape's letters; none where a letter is no letter. -/
def sumW : List UInt8 → Option Nat
  | [] => some 0
  | c :: r => if wid c = 0 then none else (sumW r).map (wid c + ·)

def least (l : List UInt8) : Int := if 8 < l.length then -1 else match sumW l with | some n => n | none => -1

set_option maxHeartbeats 400000 in
theorem width_any (c : UInt8) (w : World) :
    Calls Tryd.prog 49 #[.int .u8 c.toNat] w fun e w' => e = .returned (.int .i64 (wid c : Int)) ∧ w = w' := by
  go_enter Tryd.func49, Tryd.ntmps49
  go_wp2
  all_goals
    go_ret
    refine ⟨ret_i64 ?_, rfl⟩
    simp only [beq_iff_eq, beq_eq_false_iff_ne] at *
    unfold wid
    repeat (first | rw [if_pos (by omega)] | rw [if_neg (by omega)])
    try rfl

/-- How far the sum has come behind k letters, none of them wrong. -/
theorem sumW_append (l r : List UInt8) : sumW (l ++ r) = (sumW l).bind fun n => (sumW r).map (n + ·) := by
  induction l with
  | nil => simp [sumW]
  | cons c l ih =>
    simp only [List.cons_append, sumW]
    split
    · rfl
    · rw [ih]
      cases sumW l <;> simp
      cases sumW r <;> simp [Nat.add_assoc]

theorem sumW_take_succ (l : List UInt8) (k n : Nat) (hk : k < l.length) (h : sumW (l.take k) = some n) :
    sumW (l.take (k + 1)) = if wid l[k] = 0 then none else some (n + wid l[k]) := by
  rw [List.take_succ_eq_append_getElem hk, sumW_append, h]
  simp [sumW]
  split <;> simp

theorem sumW_take_none (l : List UInt8) (k : Nat) (h : sumW (l.take k) = none) : sumW l = none := by
  conv => lhs; rw [← List.take_append_drop k l, sumW_append, h]
  rfl

theorem sumW_le (l : List UInt8) (n : Nat) (h : sumW l = some n) : n ≤ 8 * l.length := by
  induction l generalizing n with
  | nil => simp [sumW] at h; omega
  | cons c l ih =>
    simp only [sumW] at h
    split at h
    · cases h
    · cases hs : sumW l with
      | none => simp [hs] at h
      | some m =>
        simp [hs] at h
        have := ih m hs
        have := wid_le c
        simp; omega

theorem least_bad {s : ByteArray} (n k : Nat) (hz : s.data.toList.length = s.size) (h8 : s.size ≤ 8) (hk : k < s.size) (h : sumW (s.data.toList.take k) = some n)
    (h0 : wid (s.data.toList[k]'(by omega)) = 0) : -1 = least s.data.toList := by
  have e := sumW_take_succ s.data.toList k n (by omega) h
  rw [if_pos h0] at e
  unfold least
  rw [if_neg (by omega), sumW_take_none _ _ e]

theorem least_all {s : ByteArray} (k n : Nat) (hz : s.data.toList.length = s.size) (h8 : s.size ≤ 8) (hk : s.size ≤ k) (h : sumW (s.data.toList.take k) = some n) : (n : Int) = least s.data.toList := by
  rw [List.take_of_length_le (by omega)] at h
  unfold least
  rw [if_neg (by omega), h]

set_option maxHeartbeats 400000 in
theorem least_any (s : ByteArray) (w : World) :
    Calls Tryd.prog 37 #[.string s] w fun e w' => e = .returned (.int .i64 (least s.data.toList)) ∧ w = w' := by
  by_cases h8 : s.size ≤ 8
  · have hz : s.data.toList.length = s.size := by simp
    go_enter Tryd.func37, Tryd.ntmps37
    go_wp2
    go_loop [3, 11] (fun t i => ∃ k n : Nat, k ≤ s.size ∧ i = .int .i64 k ∧ t = .int .i64 n ∧ n ≤ 8 * k ∧ Hid (sumW (s.data.toList.take k) = some n)) (fun _ i => s.size - (intOf i).toNat)
    case atStart => exact ⟨0, 0, by omega, rfl, rfl, by omega, rfl⟩
    case round =>
      obtain ⟨k, n, hk, rfl, rfl, hn, hs⟩ := hrel
      by_cases hlt : k < s.size
      · have hw := wid_le s[k]
        by_cases h0 : wid s[k] = 0
        · have hb : (((wid s[k] : Nat) : Int) == 0) = true := by simp [h0]
          have H0 : Hid (wid s[k] = 0) := h0
          clear h0
          go_wp2_with (go_at_call 49; refine (width_any _ _).mono ?_; rintro e w' ⟨rfl, rfl⟩)
          go_ret
          exact ⟨ret_i64 (least_bad n k hz h8 hlt hs.out H0.out), rfl⟩
        · have hb : (((wid s[k] : Nat) : Int) == 0) = false := by simp [h0]
          have H0 : Hid (wid s[k] ≠ 0) := h0
          clear h0
          go_wp2_with (go_at_call 49; refine (width_any _ _).mono ?_; rintro e w' ⟨rfl, rfl⟩)
          go_round
          case rel => exact ⟨k + 1, n + wid s[k], by omega, by go_num, by go_num, by omega, by
            have e := sumW_take_succ s.data.toList k n (by omega) hs.out
            exact e.trans (if_neg H0.out)⟩
          case measure => simp [intOf]; omega
      · go_wp2
        go_ret
        exact ⟨ret_i64 (least_all k n hz h8 (by omega) hs.out), rfl⟩
  · go_enter Tryd.func37, Tryd.ntmps37
    go_wp2
    go_ret
    refine ⟨ret_i64 ?_, rfl⟩
    unfold least
    rw [if_pos (by simp; omega)]

set_option maxHeartbeats 400000 in
theorem right_any (s : ByteArray) (w : World) :
    Calls Tryd.prog 44 #[.string s] w fun e w' => e = .returned (.bool (decide (0 ≤ least s.data.toList))) ∧ w = w' := by
  generalize hl : least s.data.toList = n
  have H := Lib.hid hl
  clear hl
  go_enter Tryd.func44, Tryd.ntmps44
  go_wp2_with (go_at_call 37; refine (least_any _ _).mono ?_; rintro e w' ⟨rfl, rfl⟩; rw [H.out])
  go_ret
  exact ⟨rfl, rfl⟩

def lett : List UInt8 := [98, 119, 100, 113, 115, 108]

theorem wid_none {c : UInt8} (h : ∀ j, j < 6 → lett[j]? ≠ some c) : wid c = 0 := by
  have h0 := h 0 (by omega)
  have h1 := h 1 (by omega)
  have h2 := h 2 (by omega)
  have h3 := h 3 (by omega)
  have h4 := h 4 (by omega)
  have h5 := h 5 (by omega)
  simp only [lett, List.getElem?_cons_zero, List.getElem?_cons_succ, ne_eq, Option.some.injEq, ← UInt8.toNat_inj] at h0 h1 h2 h3 h4 h5
  unfold wid
  repeat rw [if_neg (fun e => by first | exact h0 e.symm | exact h1 e.symm | exact h2 e.symm | exact h3 e.symm | exact h4 e.symm | exact h5 e.symm)]

theorem hit {a c : UInt8} (t : ((a.toNat : Int) == (c.toNat : Int)) = true) : c = a := by
  rw [beq_iff_eq] at t
  exact UInt8.toNat_inj.1 (by omega)

theorem miss {a c : UInt8} {k : Nat} (t : ((a.toNat : Int) == (c.toNat : Int)) = false) (ha : lett[k]? = some a) (h : ∀ j, j < k → lett[j]? ≠ some c) : ∀ j, j < k + 1 → lett[j]? ≠ some c := by
  intro j hj e
  rw [beq_eq_false_iff_ne] at t
  by_cases hjk : j = k
  · subst hjk
    rw [ha] at e
    injection e with e
    exact t (by rw [e])
  · exact h j (by omega) e

end Go.Proofs.YtaefgieodehceaaDoor
