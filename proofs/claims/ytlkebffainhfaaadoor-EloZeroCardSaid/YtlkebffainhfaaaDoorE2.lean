/- Elo: rows of numbers; means; the document's expected. -/
import Derived.Test.YtlkebffainhfaaaDoorE1
namespace Go.Proofs.YtlkebffainhfaaaDoor
open Go.RowKit
set_option maxRecDepth 20000

/-- A slice that reads numbers. -/
def Zs (w : World) (v : Value) (l : List Int) : Prop :=
  ∃ A c, v = .slice A l.length c ∧ l.length ≤ c ∧ (0 < l.length → ∃ b o, A = some ⟨b, o, none⟩ ∧ b < w.heap.size ∧ ∀ j (hj : j < l.length), w.cell? ⟨b, o + j, none⟩ = some (.int .i64 l[j]))
theorem Zs.below {w W : World} {v : Value} {l : List Int} {B : Nat} (h : Zs w v l) (hb : Below B w W) (hB : w.heap.size ≤ B) : Zs W v l := by
  obtain ⟨A, c, e, hc, hr⟩ := h
  refine ⟨A, c, e, hc, fun hp => ?_⟩
  obtain ⟨b, o, ha, hl, hcell⟩ := hr hp
  exact ⟨b, o, ha, Nat.lt_of_lt_of_le hl hb.size, fun j hj => (hb.cell (p := ⟨b, o + j, none⟩) (Nat.lt_of_lt_of_le hl hB)).trans (hcell j hj)⟩

def sumR (l : List Int) : Int := (l.map rt).sum
def meanR (l : List Int) : Int := sumR l / l.length
theorem sumR_bd (l : List Int) : 0 ≤ sumR l ∧ sumR l ≤ 10000 * l.length := by
  induction l with
  | nil => simp [sumR]
  | cons a l ih =>
    have := rt_bd a
    simp only [sumR, List.map_cons, List.sum_cons, List.length_cons] at ih ⊢
    push_cast
    omega
theorem sumR_snoc (l : List Int) (k : Nat) (hk : k < l.length) : sumR (l.take (k + 1)) = sumR (l.take k) + rt l[k] := by
  rw [List.take_succ_eq_append_getElem hk]
  simp only [sumR, List.map_append, List.sum_append, List.map_cons, List.map_nil, List.sum_cons, List.sum_nil]
  omega
theorem meanR_bd (l : List Int) : 0 ≤ meanR l ∧ meanR l ≤ 10000 := by
  have h := sumR_bd l
  unfold meanR
  by_cases h0 : l.length = 0
  · rw [h0]; simp
  · have hp : (0 : Int) < (l.length : Int) := by omega
    refine ⟨Int.ediv_nonneg h.1 (by omega), ?_⟩
    have := Int.ediv_le_ediv hp h.2
    rw [Int.mul_ediv_cancel _ (by omega)] at this
    exact this

set_option maxHeartbeats 1000000 in
theorem mean_any (v : Value) (l : List Int) (w : World) (hz : Zs w v l) (hn : l.length ≤ 1000) : Calls Tryd.prog 12 #[v] w fun r w' => r = .returned (.int .i64 (meanR l)) ∧ w' = w := by
  obtain ⟨A, c, rfl, hc, hr⟩ := hz
  by_cases h0 : l.length = 0
  · have hl : l = [] := List.eq_nil_of_length_eq_zero h0
    subst hl
    clear hr
    go_enter Tryd.func12, Tryd.ntmps12
    go_wp2
    go_ret
    exact ⟨rfl, rfl⟩
  · obtain ⟨b, o, rfl, hb, hcell⟩ := hr (by omega)
    have HC := Lib.hid hcell
    have h1 : 0 < l.length := by omega
    have e0 : ((l.length : Int) == 0) = false := by simp; intro h; simp [h] at h0
    clear hcell hr h0
    obtain ⟨res, hres⟩ : ∃ res, res = meanR l := ⟨_, rfl⟩
    rw [← hres]
    have HR := Lib.hid hres
    clear hres
    go_enter Tryd.func12, Tryd.ntmps12
    go_wp2
    go_loop [3, 5, 11] (fun s _ i => ∃ k : Nat, k ≤ l.length ∧ i = .int .i64 k ∧ s = .int .i64 (sumR (l.take k))) (fun _ _ i => l.length - (intOf i).toNat)
    case atStart => exact ⟨0, Nat.zero_le _, rfl, rfl⟩
    case round =>
      obtain ⟨k, hk, rfl, rfl⟩ := hrel
      by_cases hlt : k < l.length
      · have hcell := HC.out k hlt
        have hs := sumR_bd (l.take k)
        have hlk : (l.take k).length ≤ k := List.length_take_le _ _
        have hrb := rt_bd l[k]
        have HS := Lib.hid (sumR_snoc l k hlt)
        go_wp2_with (go_at_call 23; refine (within_any _ _).mono ?_; rintro e w' ⟨rfl, rfl⟩)
        go_round
        case rel => exact ⟨k + 1, by omega, by go_num, by rw [HS.out]⟩
        case measure => simp [intOf]; omega
      · obtain rfl : k = l.length := by omega
        have hs := sumR_bd l
        have HT : Hid (l.take l.length = l) := List.take_length
        rw [HT.out]
        go_wp2
        go_ret
        exact ⟨by rw [HR.out]; rfl, rfl⟩

set_option maxHeartbeats 1000000 in
theorem rmean_any (v : Value) (l : List Int) (w : World) (hz : Zs w v l) (hn : l.length ≤ 1000) : Calls Tryd.prog 13 #[v] w fun r w' => r = .returned (.int .i64 (meanR l)) ∧ w' = w := by
  obtain ⟨A, c, rfl, hc, hr⟩ := hz
  by_cases h0 : l.length = 0
  · have hl : l = [] := List.eq_nil_of_length_eq_zero h0
    subst hl
    clear hr
    go_enter Tryd.func13, Tryd.ntmps13
    go_wp2
    go_ret
    exact ⟨rfl, rfl⟩
  · obtain ⟨b, o, rfl, hb, hcell⟩ := hr (by omega)
    have HC := Lib.hid hcell
    have h1 : 0 < l.length := by omega
    have e0 : ((l.length : Int) == 0) = false := by simp; intro h; simp [h] at h0
    clear hcell hr h0
    obtain ⟨res, hres⟩ : ∃ res, res = meanR l := ⟨_, rfl⟩
    rw [← hres]
    have HR := Lib.hid hres
    clear hres
    go_enter Tryd.func13, Tryd.ntmps13
    go_wp2
    go_loop [3, 4] (fun s i => ∃ k : Nat, k ≤ l.length ∧ i = .int .i64 k ∧ s = .int .i64 (sumR (l.take k))) (fun _ i => l.length - (intOf i).toNat)
    case atStart => exact ⟨0, Nat.zero_le _, rfl, rfl⟩
    case round =>
      obtain ⟨k, hk, rfl, rfl⟩ := hrel
      by_cases hlt : k < l.length
      · have hcell := HC.out k hlt
        have hs := sumR_bd (l.take k)
        have hlk : (l.take k).length ≤ k := List.length_take_le _ _
        have hrb := rt_bd l[k]
        have HS := Lib.hid (sumR_snoc l k hlt)
        go_wp2_with (go_at_call 24; refine (rating_any _ _).mono ?_; rintro e w' ⟨rfl, rfl⟩)
        go_round
        case rel => exact ⟨k + 1, by omega, by go_num, by rw [HS.out]⟩
        case measure => simp [intOf]; omega
      · obtain rfl : k = l.length := by omega
        have hs := sumR_bd l
        have HT : Hid (l.take l.length = l) := List.take_length
        rw [HT.out]
        go_wp2
        go_ret
        exact ⟨by rw [HR.out]; rfl, rfl⟩
end Go.Proofs.YtlkebffainhfaaaDoor
