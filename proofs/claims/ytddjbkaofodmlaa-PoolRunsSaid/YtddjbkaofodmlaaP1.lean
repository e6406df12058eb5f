/- Pool: numbers; instances in memory; find, in, move, touch. -/
import Derived.Test.YtddjbkaofodmlaaRows
import Derived.WalkKit
import Derived.Below
import Derived.Carry
import Derived.OpenShut
import Derived.WalkSmall
import Derived.Outline
import Derived.BigQuiet
import Derived.Lib.Hide
import Derived.Laws.StructEq
import Derived.OrdersHeld
import Derived.LoopTactic
import Derived.Deep.QuietTactic
import Derived.Deep.RegionLaw
import Derived.Deep.RegionHeld3
import Derived.Deep.DeepCutAuto
import Derived.IntWalk
import Derived.StillTailTactics
import Derived.OwnWalk
import Derived.Laws.AppendOwn
namespace Go.Proofs.Ytddjbkaofodmlaa
open Go.RowKit
set_option maxRecDepth 20000
set_option linter.unusedVariables false
set_option linter.unusedSimpArgs false

theorem lt_of_block {w : World} {G : Nat} {o : Obj} (h : w.heap[G]? = some o) : G < w.heap.size := (Array.getElem?_eq_some_iff.1 h).1
theorem ret_int {k : IntKind} {a b : Int} (h : a = b) : Ending.returned (.int k a) = .returned (.int k b) := by rw [h]
abbrev inI (x : Int) : Prop := -9223372036854775808 ≤ x ∧ x ≤ 9223372036854775807
def addP (now some_ : Int) : Int := min (now + max some_ 0) 9223372036854775807

set_option maxHeartbeats 2000000 in
theorem add_any (now s : Int) (w : World) (hn : inI now) (hs0 : inI s) :
    Calls Try.prog 38 #[.int .i64 now, .int .i64 s] w fun r w' => r = .returned (.int .i64 (addP now s)) ∧ w' = w := by
  obtain ⟨h1, h2⟩ := hn
  obtain ⟨-, h4⟩ := hs0
  by_cases hs : s ≤ 0
  · have hap : addP now s = now := by unfold addP; omega
    have hmx : max s 0 = 0 := by omega
    have hnov : ¬ now > 9223372036854775807 := by omega
    rw [hap]
    go_enter Try.func38, Try.ntmps38
    go_wp2
    all_goals
      go_ret
      refine ⟨?_, rfl⟩
      first | rfl | (simp; omega)
  · have hmx : max s 0 = s := by omega
    by_cases hov : now > 9223372036854775807 - s
    · have hap : addP now s = 9223372036854775807 := by unfold addP; omega
      rw [hap]
      go_enter Try.func38, Try.ntmps38
      go_wp2
      go_ret
      exact ⟨rfl, rfl⟩
    · have hap : addP now s = now + s := by unfold addP; omega
      rw [hap]
      go_enter Try.func38, Try.ntmps38
      go_wp2
      go_ret
      exact ⟨rfl, rfl⟩
set_option maxHeartbeats 2000000 in
theorem radd_any (a d : Int) (w : World) (ha : inI a) (hd0 : inI d) : Calls Try.prog 17 #[.int .i64 a, .int .i64 d] w fun r w' => r = .returned (.int .i64 (addP a d)) ∧ w' = w := by
  obtain ⟨ha1, ha2⟩ := ha
  obtain ⟨hd1, hd2⟩ := hd0
  by_cases hd : d ≤ 0
  · have hap : addP a d = a := by unfold addP; omega
    rw [hap]
    go_enter Try.func17, Try.ntmps17
    go_wp2
    go_ret
    exact ⟨rfl, rfl⟩
  · by_cases h : 9223372036854775807 - d < a
    · have hap : addP a d = 9223372036854775807 := by unfold addP; omega
      rw [hap]
      have g1 : 0 < a := by omega
      have g2 : 9223372036854775807 - a < d := by omega
      go_enter Try.func17, Try.ntmps17
      go_wp2
      go_ret
      exact ⟨rfl, rfl⟩
    · have hap : addP a d = a + d := by unfold addP; omega
      rw [hap]
      by_cases g1 : 0 < a
      · have g2 : ¬ 9223372036854775807 - a < d := by omega
        go_enter Try.func17, Try.ntmps17
        go_wp2
        go_ret
        exact ⟨rfl, rfl⟩
      · go_enter Try.func17, Try.ntmps17
        go_wp2
        go_ret
        exact ⟨rfl, rfl⟩
theorem right_any (x : Nat) (w : World) : Calls Try.prog 36 #[.int .u32 (x : Int)] w fun r w' => r = .returned (.bool (decide (1 ≤ x ∧ x ≤ 2147483647))) ∧ w' = w := by
  by_cases h0 : 1 ≤ x
  · by_cases h2 : x ≤ 2147483647
    · have e : decide (1 ≤ x ∧ x ≤ 2147483647) = true := by rw [decide_eq_true_iff]; omega
      rw [e]
      go_enter Try.func36, Try.ntmps36
      go_wp2
      go_ret
      exact ⟨by simp <;> omega, rfl⟩
    · have e : decide (1 ≤ x ∧ x ≤ 2147483647) = false := by rw [decide_eq_false_iff_not]; omega
      rw [e]
      go_enter Try.func36, Try.ntmps36
      go_wp2
      go_ret
      exact ⟨by simp <;> omega, rfl⟩
  · obtain rfl : x = 0 := by omega
    go_enter Try.func36, Try.ntmps36
    go_wp2
    go_ret
    exact ⟨rfl, rfl⟩
theorem rright_any (x : Nat) (w : World) : Calls Try.prog 29 #[.int .u32 (x : Int)] w fun r w' => r = .returned (.bool (decide (1 ≤ x ∧ x ≤ 2147483647))) ∧ w' = w := by
  by_cases h0 : x = 0
  · subst h0
    go_enter Try.func29, Try.ntmps29
    go_wp2
    go_ret
    exact ⟨rfl, rfl⟩
  · have h1 : ¬ (x : Int) = 0 := by omega
    by_cases h2 : x ≤ 2147483647
    · have e : decide (1 ≤ x ∧ x ≤ 2147483647) = true := by rw [decide_eq_true_iff]; omega
      rw [e]
      go_enter Try.func29, Try.ntmps29
      go_wp2
      go_ret
      exact ⟨by simp <;> omega, rfl⟩
    · have e : decide (1 ≤ x ∧ x ≤ 2147483647) = false := by rw [decide_eq_false_iff_not]; omega
      rw [e]
      go_enter Try.func29, Try.ntmps29
      go_wp2
      go_ret
      exact ⟨by simp <;> omega, rfl⟩

/-- Whole numbers in a block. -/
abbrev zs (l : List Int) : List Value := l.map (Value.int .i64)
def IxPost (ss : List Int) (x : Int) (w : World) (r : Ending) (w' : World) : Prop := (∃ i : Int, r = .returned (.int .i64 i) ∧ (if x ∈ ss then 0 ≤ i else i = -1)) ∧ w' = w
set_option maxHeartbeats 2000000 in
theorem index_any (G n : Nat) (ss : List Int) (x : Int) (w : World) (hn : n = ss.length) (hl : n ≤ 10) (hG : w.heap[G]? = some (.cells (zs ss).toArray 3 (0, 0))) :
    Calls Try.prog 40 #[.slice (some ⟨G, 0, none⟩) n n, .int .i64 x] w (IxPost ss x w) := by
  have HG : Hid (∀ k y, ss[k]? = some y → w.cell? ⟨G, k, none⟩ = some (.int .i64 y)) := fun k y hk => by
    rw [cell_of_row w G k _ _ _ hG]
    simp [zs, hk]
  have HN := Lib.hid hn
  clear hG hn
  go_enter Try.func40, Try.ntmps40
  go_wp2_with fail
  go_loop [8] (fun i => ∃ k : Nat, k ≤ n ∧ i = .int .i64 (k : Int) ∧ Hid (∀ j y, j < k → ss[j]? = some y → y ≠ x)) (fun i => n - (intOf i).toNat)
  case atStart => exact ⟨0, Nat.zero_le _, rfl, fun j y hj => absurd hj (Nat.not_lt_zero j)⟩
  case round =>
    obtain ⟨k, hk, rfl, HK⟩ := hrel
    by_cases hlt : k < n
    · obtain ⟨y, hy⟩ : ∃ e, ss[k]? = some e := ⟨ss[k]'(by rw [← HN.out]; exact hlt), List.getElem?_eq_getElem _⟩
      have c0 := HG.out k y hy
      have HY := Lib.hid hy
      clear hy
      by_cases hxy : x = y
      · subst hxy
        have HM : Hid (x ∈ ss) := List.mem_of_getElem? HY.out
        go_wp2
        go_ret
        exact ⟨⟨k, rfl, by rw [if_pos HM.out]; omega⟩, rfl⟩
      · go_wp2
        go_round
        case rel =>
          refine ⟨k + 1, by omega, by go_num, fun j z hj hz => ?_⟩
          by_cases hjk : j < k
          · exact HK.out j z hjk hz
          · have : j = k := by omega
            subst this
            rw [HY.out] at hz
            injection hz with hz
            subst hz
            exact fun e => hxy e.symm
        case measure => simp [intOf] <;> omega
    · have hkn : k = n := by omega
      subst hkn
      have HNO : Hid (x ∉ ss) := fun h => by
        obtain ⟨j, hj, e⟩ := List.getElem_of_mem h
        exact HK.out j x (by have := HN.out; omega) (by rw [← e]; exact List.getElem?_eq_getElem hj) rfl
      go_wp2
      go_ret
      exact ⟨⟨-1, rfl, by rw [if_neg HNO.out]⟩, rfl⟩
set_option maxHeartbeats 2000000 in
theorem contains_any (G n : Nat) (ss : List Int) (x : Int) (w : World) (hn : n = ss.length) (hl : n ≤ 10) (hG : w.heap[G]? = some (.cells (zs ss).toArray 3 (0, 0))) :
    Calls Try.prog 39 #[.slice (some ⟨G, 0, none⟩) n n, .int .i64 x] w fun r w' => r = .returned (.bool (decide (x ∈ ss))) ∧ w' = w := by
  have HI := Lib.hid (index_any G n ss x w hn hl hG)
  clear hG hn
  obtain ⟨b, hb⟩ : ∃ b, b = decide (x ∈ ss) := ⟨_, rfl⟩
  rw [← hb]
  have HB := Lib.hid hb
  clear hb
  go_enter Try.func39, Try.ntmps39
  go_wp2_with fail
  refine HI.out.mono ?_
  rintro r w' ⟨⟨i, rfl, hi⟩, rfl⟩
  have HX := Lib.hid hi
  clear hi
  by_cases h : 0 ≤ i
  · have hd : decide (0 ≤ i) = true := by simpa using h
    have : b = true := by
      rw [HB.out, decide_eq_true_iff]
      by_cases hm : x ∈ ss
      · exact hm
      · have := HX.out
        rw [if_neg hm] at this
        omega
    subst this
    go_wp2
    go_ret
    exact ⟨by first | rfl | simp [h], rfl⟩
  · have : b = false := by
      rw [HB.out, decide_eq_false_iff_not]
      intro hm
      have := HX.out
      rw [if_pos hm] at this
      omega
    subst this
    go_wp2
    go_ret
    exact ⟨by first | rfl | simp [h] | (simp; omega), rfl⟩
end Go.Proofs.Ytddjbkaofodmlaa
