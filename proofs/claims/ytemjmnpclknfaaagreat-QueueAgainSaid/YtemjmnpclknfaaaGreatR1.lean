/- Rack: numbers told apart; where a number stands among rising ones. -/
import Derived.Test.YtemjmnpclknfaaaGreatN6
import Derived.WalkKit
import Derived.Below
import Derived.Carry
import Derived.OpenShut
import Derived.WalkSmall
import Derived.Outline
import Derived.BigQuiet
import Derived.Lib.Hide
import Derived.Laws.StructEq
import Derived.OrdersHeld
import Derived.Deep.RegionLaw
import Derived.Deep.RegionHeld3
import Derived.Deep.DeepCutAuto
namespace Go.Proofs.YtemjmnpclknfaaaGreat
open Go.RowKit
set_option maxRecDepth 20000


theorem nan_any (a : Nat) (w : World) : Calls Tryz.prog 68 #[.int .u32 (a : Int)] w fun r w' => r = .returned (.bool false) ∧ w' = w := by
  go_enter Tryz.func68, Tryz.ntmps68
  go_wp2
  go_ret
  exact ⟨rfl, rfl⟩
theorem snan_any (a : Nat) (w : World) : Calls Tryz.prog 73 #[.int .u32 (a : Int)] w fun r w' => r = .returned (.bool false) ∧ w' = w := by
  go_enter Tryz.func73, Tryz.ntmps73
  go_wp2
  go_ret
  exact ⟨rfl, rfl⟩
theorem less_any (a b : Nat) (w : World) : Calls Tryz.prog 72 #[.int .u32 (a : Int), .int .u32 (b : Int)] w fun r w' => r = .returned (.bool (decide (a < b))) ∧ w' = w := by
  go_enter Tryz.func72, Tryz.ntmps72
  go_wp2_with fail
  refine (nan_any a w).mono ?_
  rintro r w1 ⟨rfl, rfl⟩
  go_wp2
  go_ret
  simp

def Up (l : List Nat) : Prop := ∀ (i j x y : Nat), i < j → l[i]? = some x → l[j]? = some y → x < y
def At32 (w : World) (b o : Nat) (l : List Nat) : Prop := ∀ (j x : Nat), l[j]? = some x → w.cell? ⟨b, o + j, none⟩ = some (.int .u32 (x : Int))

theorem search_any (b o c n : Nat) (l : List Nat) (x : Nat) (w : World) (hn : n = l.length) (hl : n ≤ 1000) (hu : Up l) (hA : At32 w b o l) :
    Calls Tryz.prog 58 #[.slice (some ⟨b, o, none⟩) n c, .int .u32 (x : Int)] w fun r w' => w' = w ∧ ∃ p : Nat, p ≤ n ∧ (∀ j y, j < p → l[j]? = some y → y < x) ∧ (∀ j y, p ≤ j → l[j]? = some y → x ≤ y) ∧ r = .returned (.tuple #[.int .i64 (p : Int), .bool (decide (l[p]? = some x))]) := by
  have HN := Lib.hid hn
  have HU := Lib.hid hu
  have HA := Lib.hid hA
  clear hn hu hA
  go_enter Tryz.func58, Tryz.ntmps58
  go_wp2_with fail
  go_loopw [7, 8] (fun u v wr => ∃ i j : Nat, i ≤ j ∧ j ≤ n ∧ u = .int .i64 (i : Int) ∧ v = .int .i64 (j : Int) ∧ Hid ((∀ k y, k < i → l[k]? = some y → y < x) ∧ (∀ k y, j ≤ k → l[k]? = some y → x ≤ y)) ∧ wr = w) (fun u v _ => (intOf v).toNat - (intOf u).toNat)
  case atStart => exact ⟨0, n, by omega, by omega, rfl, rfl, ⟨fun k y h => absurd h (Nat.not_lt_zero k), fun k y h hy => absurd (List.getElem?_eq_some_iff.1 hy).1 (by have := HN.out; omega)⟩, by first | rfl | trivial⟩
  case round =>
    obtain ⟨i, j, hij, hj, rfl, rfl, HI, rfl⟩ := hrel
    by_cases hlt : i < j
    · have hm1 : i ≤ (i + j) / 2 ∧ (i + j) / 2 < j := by omega
      obtain ⟨y, hy⟩ : ∃ y, l[(i + j) / 2]? = some y := ⟨l[(i + j) / 2]'(by have := HN.out; omega), List.getElem?_eq_getElem _⟩
      have hc := HA.out _ y hy
      have HY := Lib.hid hy
      have HLS : Hid (∀ W, Calls Tryz.prog 72 #[.int .u32 (y : Int), .int .u32 (x : Int)] W fun r w' => r = .returned (.bool (decide (y < x))) ∧ w' = W) := fun W => less_any y x W
      clear hy
      go_wp2_with fail
      refine (HLS.out wr).mono ?_
      rintro r w1 ⟨rfl, rfl⟩
      by_cases hyx : y < x
      · have hd : decide (y < x) = true := by simpa using hyx
        rw [hd]
        go_wp2
        go_roundw
        case rel =>
          refine ⟨(i + j) / 2 + 1, j, by omega, hj, by go_num, rfl, ⟨fun k z hk hz => ?_, HI.out.2⟩, by first | rfl | trivial⟩
          by_cases hke : k = (i + j) / 2
          · subst hke
            rw [HY.out] at hz
            injection hz with hz
            omega
          · have := HU.out k _ z y (by omega) hz HY.out
            omega
        case measure => simp [intOf]; omega
      · have hd : decide (y < x) = false := by simpa using hyx
        rw [hd]
        go_wp2
        go_roundw
        case rel =>
          refine ⟨i, (i + j) / 2, by omega, by omega, rfl, by go_num, ⟨HI.out.1, fun k z hk hz => ?_⟩, by first | rfl | trivial⟩
          by_cases hke : k = (i + j) / 2
          · subst hke
            rw [HY.out] at hz
            injection hz with hz
            omega
          · have := HU.out _ k y z (by omega) HY.out hz
            omega
        case measure => simp [intOf]; omega
    · have hij' : i = j := by omega
      subst hij'
      by_cases hin : i < n
      · obtain ⟨y, hy⟩ : ∃ y, l[i]? = some y := ⟨l[i]'(by have := HN.out; omega), List.getElem?_eq_getElem _⟩
        have hc := HA.out _ y hy
        have HY := Lib.hid hy
        clear hy
        by_cases hyx : y = x
        · subst hyx
          go_wp2
          exact bodyPost_ret (v := .tuple #[.int .i64 (i : Int), .bool true]) (by simp [results, Tryz.results58, go_sem]) rfl ⟨rfl, i, hj, HI.out.1, HI.out.2, by rw [HY.out]; simp⟩
        · have hne : ¬((y : Int) = (x : Int)) := by omega
          go_wp2_with fail
          refine (snan_any y wr).mono ?_
          rintro r w1 ⟨rfl, rfl⟩
          go_wp2
          exact bodyPost_ret (v := .tuple #[.int .i64 (i : Int), .bool false]) (by simp [results, Tryz.results58, go_sem]; omega) rfl ⟨rfl, i, hj, HI.out.1, HI.out.2, by rw [HY.out]; simp [hyx]⟩
      · have hnone : l[i]? = none := List.getElem?_eq_none (by have := HN.out; omega)
        have HNO := Lib.hid hnone
        clear hnone
        go_wp2
        exact bodyPost_ret (v := .tuple #[.int .i64 (i : Int), .bool false]) (by simp [results, Tryz.results58, go_sem]) rfl ⟨rfl, i, hj, HI.out.1, HI.out.2, by rw [HNO.out]; rfl⟩
end Go.Proofs.YtemjmnpclknfaaaGreat
