/- The sum of any bytes: ShaSums returns true for every input. -/
import Derived.Test.YtbnmblhpoaaegaaDoorSH
namespace Go.Proofs.YtbnmblhpoaaegaaDoor
open Go.RowKit

set_option maxHeartbeats 1000000 in
set_option maxRecDepth 4000 in
theorem sums_walk (v : Value) (l : List UInt8) (w : World) (hp : Pb w v l) (hk : Kt w) (hf : Ft w) (h1 : 1 < w.heap.size) (hpl : l.length ≤ 9223372036854775807) :
    Calls Tryd.prog 4 #[v] w fun e w' => e = .returned (.bool true) ∧ Below w.heap.size w w' := by
  obtain ⟨A, c, rfl, _, _⟩ := id hp
  obtain ⟨n, hn⟩ : ∃ n, n = l.length := ⟨_, rfl⟩
  rw [← hn] at hp hpl ⊢
  have HN := Lib.hid hn
  have HP := Lib.hid hp
  have HK := Lib.hid hk
  have HF := Lib.hid hf
  have H1 := Lib.hid h1
  clear hn hp hk hf h1
  go_enter Tryd.func4, Tryd.ntmps4
  by_cases hbig : 600 < n
  · have t : decide ((n : Int) > 600) = true := by rw [decide_eq_true_iff]; omega
    go_wp2_with fail
    go_ret
    exact ⟨rfl, Below.refl _ _⟩
  · have t : decide ((n : Int) > 600) = false := by rw [decide_eq_false_iff_not]; omega
    have hln : l.length ≤ 600 := by have := HN.out; omega
    obtain ⟨S, hS⟩ : ∃ S, S = sumP l := ⟨_, rfl⟩
    have hba : Below w.heap.size w (w.alloc (.cells #[.slice A n c] 27)) := (Below.refl _ _).alloc (Nat.le_refl _) _
    have hm := sum_any _ [l] _ (pbs_one HP.out 27) (HK.out.below hba (by have := H1.out; omega)) (HF.out.below hba H1.out) (Nat.lt_of_lt_of_le H1.out hba.size) (by rw [flat_one]; omega) (by simp)
    rw [flat_one, ← hS] at hm
    have heq := fun W => eq_bytes S (by rw [hS, sumP_length]) W
    have HM := Lib.hid hm
    have HBA := Lib.hid hba
    have HS := Lib.hid hS
    clear hm hba hS
    go_wp2_with fail
    refine HM.out.mono ?_
    rintro e w2 ⟨rfl, hb2⟩
    have hb3 := HBA.out.trans (hb2.mono HBA.out.size)
    have hm := rsum_any _ l w2 (HP.out.below hb3) (by omega)
    rw [← HS.out] at hm
    have HM2 := Lib.hid hm
    have HB3 := Lib.hid hb3
    clear hm hb3 hb2 HM HBA
    go_wp2_with fail
    refine HM2.out.mono ?_
    rintro e w4 ⟨rfl, hb4⟩
    have HB4 := Lib.hid (HB3.out.trans (hb4.mono HB3.out.size))
    clear hb4 HB3 HM2
    go_wp2_with fail
    refine (awake_any w4 (HK.out.below HB4.out (by have := H1.out; omega)) (HF.out.below HB4.out H1.out) (Nat.lt_of_lt_of_le H1.out HB4.out.size)).mono ?_
    rintro e w6 ⟨rfl, hb6⟩
    have HB6 := Lib.hid (HB4.out.trans (hb6.mono HB4.out.size))
    clear hb6 HB4 heq
    go_wp2_with fail
    go_ret
    exact ⟨rfl, HB6.out⟩
end Go.Proofs.YtbnmblhpoaaegaaDoor
