/- Elo: shares. -/
import Derived.Test.YtlkebffainhfaaaDoorE4
namespace Go.Proofs.YtlkebffainhfaaaDoor
open Go.RowKit
set_option maxRecDepth 20000

/-- What the one at place k of m has of p points that are not below 0. -/
def shp (p m k : Int) : Int := if k < 0 ∨ m ≤ k then 0 else if k < p % m then p / m + 1 else p / m
/-- What the one at place k of m has of p points. -/
def shr (p m k : Int) : Int := if p < 0 then -shp (-p) m k else shp p m k
theorem div_bd (p m : Int) (hp : 0 ≤ p) (hm : 0 < m) : 0 ≤ p / m ∧ p / m ≤ p ∧ 0 ≤ p % m ∧ p % m < m ∧ p / m * m = p - p % m :=
  ⟨Int.ediv_nonneg hp (by omega), Int.ediv_le_self _ hp, Int.emod_nonneg _ (by omega), Int.emod_lt_of_pos _ hm, by have := Int.mul_ediv_add_emod p m; rw [Int.mul_comm] at this; omega⟩
theorem shp_bd (p m k : Int) (hp : 0 ≤ p) : 0 ≤ shp p m k ∧ shp p m k ≤ p + 1 := by
  unfold shp
  split
  · omega
  · rename_i h
    have hb := div_bd p m hp (by omega)
    split <;> omega
theorem shr_bd (p m k : Int) : -(1 + max p (-p)) ≤ shr p m k ∧ shr p m k ≤ 1 + max p (-p) := by
  unfold shr
  split
  · have := shp_bd (-p) m k (by omega); omega
  · have := shp_bd p m k (by omega); omega

set_option maxHeartbeats 400000 in
theorem share_any (p m k : Int) (w : World) (h1 : -1099511627776 ≤ p) (h2 : p ≤ 1099511627776) (hm : -9223372036854775808 ≤ m) (hM : m ≤ 9223372036854775807) :
    Calls Tryd.prog 17 #[.int .i64 p, .int .i64 m, .int .i64 k] w fun e w' => e = .returned (.int .i64 (shr p m k)) ∧ ∃ n, w' = w.drewN n := by
  by_cases hk : k < 0 ∨ m ≤ k
  · have e : shr p m k = 0 := by unfold shr shp; rw [if_pos hk, if_pos hk]; simp
    rw [e]
    clear e
    rcases hk with g | g
    · go_enter Tryd.func17, Tryd.ntmps17
      go_wp2
      go_ret
      exact ⟨rfl, 0, rfl⟩
    · by_cases g2 : k < 0
      · go_enter Tryd.func17, Tryd.ntmps17
        go_wp2
        go_ret
        exact ⟨rfl, 0, rfl⟩
      · go_enter Tryd.func17, Tryd.ntmps17
        go_wp2
        go_ret
        exact ⟨rfl, 0, rfl⟩
  · have k0 : ¬ k < 0 := by omega
    have k1 : ¬ m ≤ k := by omega
    have k2 : k < m := by omega
    have m0 : 0 < m := by omega
    have m1 : (m == 0) = false := by simp; omega
    by_cases hp : p < 0
    · have hb := div_bd (-p) m (by omega) m0
      have e : shr p m k = if k < -p % m then -(-p / m) - 1 else -(-p / m) := by
        unfold shr shp; rw [if_pos hp, if_neg hk]; split <;> omega
      have eq : p.tdiv m = -(-p / m) := by
        conv => lhs; rw [show p = -(-p) by omega, Int.neg_tdiv]
        rw [Int.tdiv_eq_ediv_of_nonneg (by omega)]
      have er : p.tmod m = -(-p % m) := by
        conv => lhs; rw [show p = -(-p) by omega, Int.neg_tmod]
        rw [Int.tmod_eq_emod_of_nonneg (by omega)]
      rw [e]
      clear e hk
      generalize -p / m = q at *
      generalize -p % m = r at *
      obtain ⟨hb1, hb2, hb3, hb4, -⟩ := hb
      have v1 : IntKind.i64.wrap (-q) = -q := IntWalk.i64_in _ (by omega)
      have w1 : wrap64 (-q) = -q := wr64 (by omega) (by omega)
      have w2 : wrap64 (-r) = -r := wr64 (by omega) (by omega)
      have g1 : ¬ k < -r := by omega
      by_cases g2 : k < r
      · rw [if_pos g2]
        go_enter Tryd.func17, Tryd.ntmps17
        go_wp2
        go_quiet (fail)
        go_wp2
        go_ret
        exact ⟨rfl, _, rfl⟩
      · rw [if_neg g2]
        go_enter Tryd.func17, Tryd.ntmps17
        go_wp2
        go_quiet (fail)
        go_wp2
        go_ret
        exact ⟨rfl, _, rfl⟩
    · have hb := div_bd p m (by omega) m0
      have e : shr p m k = if k < p % m then p / m + 1 else p / m := by
        unfold shr shp; rw [if_neg hp, if_neg hk]
      have p0 : 0 ≤ p := by omega
      rw [e]
      clear e hk
      have eq : p.tdiv m = p / m := Int.tdiv_eq_ediv_of_nonneg p0
      have er : p.tmod m = p % m := Int.tmod_eq_emod_of_nonneg p0
      generalize p / m = q at *
      generalize p % m = r at *
      obtain ⟨hb1, hb2, hb3, hb4, -⟩ := hb
      have v1 : IntKind.i64.wrap q = q := IntWalk.i64_in _ (by omega)
      have g1 : ¬ k < -r := by omega
      by_cases g2 : k < r
      · rw [if_pos g2]
        go_enter Tryd.func17, Tryd.ntmps17
        go_wp2
        go_quiet (fail)
        go_wp2
        go_ret
        exact ⟨rfl, _, rfl⟩
      · rw [if_neg g2]
        go_enter Tryd.func17, Tryd.ntmps17
        go_wp2
        go_quiet (fail)
        go_wp2
        go_ret
        exact ⟨rfl, _, rfl⟩

set_option maxHeartbeats 400000 in
theorem rshare_pos (p m k : Int) (w : World) (h1 : 0 ≤ p) (h2 : p ≤ 1099511627776) (hm : -9223372036854775808 ≤ m) (hM : m ≤ 9223372036854775807) :
    Calls Tryd.prog 18 #[.int .i64 p, .int .i64 m, .int .i64 k] w fun e w' => e = .returned (.int .i64 (shp p m k)) ∧ w' = w := by
  by_cases hk : k < 0 ∨ m ≤ k
  · have e : shp p m k = 0 := by unfold shp; rw [if_pos hk]
    rw [e]
    clear e
    rcases hk with g | g
    · go_enter Tryd.func18, Tryd.ntmps18
      go_wp2_with fail
      go_ret
      exact ⟨rfl, rfl⟩
    · by_cases g2 : k < 0
      · go_enter Tryd.func18, Tryd.ntmps18
        go_wp2_with fail
        go_ret
        exact ⟨rfl, rfl⟩
      · go_enter Tryd.func18, Tryd.ntmps18
        go_wp2_with fail
        go_ret
        exact ⟨rfl, rfl⟩
  · have k0 : ¬ k < 0 := by omega
    have k1 : ¬ m ≤ k := by omega
    have k2 : k < m := by omega
    have m0 : 0 < m := by omega
    have m1 : (m == 0) = false := by simp; omega
    have hb := div_bd p m (by omega) m0
    have e : shp p m k = if k < p % m then p / m + 1 else p / m := by
      unfold shp; rw [if_neg hk]
    rw [e]
    clear e hk
    have eq : p.tdiv m = p / m := Int.tdiv_eq_ediv_of_nonneg h1
    generalize p / m = q at *
    generalize p % m = r at *
    obtain ⟨hb1, hb2, hb3, hb4, hb5⟩ := hb
    have hw : wrap64 (q * m) = p - r := by rw [hb5]; exact wr64 (by omega) (by omega)
    have hw2 : p - (p - r) = r := by omega
    have g1 : ¬ p < 0 := by omega
    clear hb5
    by_cases g2 : k < r
    · rw [if_pos g2]
      go_enter Tryd.func18, Tryd.ntmps18
      go_wp2_with fail
      go_ret
      exact ⟨rfl, rfl⟩
    · rw [if_neg g2]
      go_enter Tryd.func18, Tryd.ntmps18
      go_wp2_with fail
      go_ret
      exact ⟨rfl, rfl⟩

set_option maxHeartbeats 400000 in
theorem rshare_any (p m k : Int) (w : World) (h1 : -1099511627776 ≤ p) (h2 : p ≤ 1099511627776) (hm : -9223372036854775808 ≤ m) (hM : m ≤ 9223372036854775807) :
    Calls Tryd.prog 18 #[.int .i64 p, .int .i64 m, .int .i64 k] w fun e w' => e = .returned (.int .i64 (shr p m k)) ∧ w' = w := by
  by_cases hp : p < 0
  · have hs := shp_bd (-p) m k (by omega)
    have HS := Lib.hid (rshare_pos (-p) m k w (by omega) (by omega) hm hM)
    have e : shr p m k = -shp (-p) m k := by unfold shr; rw [if_pos hp]
    by_cases hk : k < 0 ∨ m ≤ k
    · have e : shr p m k = 0 := by rw [e]; unfold shp; rw [if_pos hk]; simp
      rw [e]
      clear e HS hs
      rcases hk with g | g
      · go_enter Tryd.func18, Tryd.ntmps18
        go_wp2_with fail
        go_ret
        exact ⟨rfl, rfl⟩
      · by_cases g2 : k < 0
        · go_enter Tryd.func18, Tryd.ntmps18
          go_wp2_with fail
          go_ret
          exact ⟨rfl, rfl⟩
        · go_enter Tryd.func18, Tryd.ntmps18
          go_wp2_with fail
          go_ret
          exact ⟨rfl, rfl⟩
    · have k0 : ¬ k < 0 := by omega
      have k1 : ¬ m ≤ k := by omega
      rw [e]
      clear e hk
      generalize shp (-p) m k = z at *
      go_enter Tryd.func18, Tryd.ntmps18
      go_wp2_with fail
      refine HS.out.mono ?_
      rintro e w' ⟨rfl, rfl⟩
      go_wp2_with fail
      go_ret
      exact ⟨rfl, rfl⟩
  · have e : shr p m k = shp p m k := by unfold shr; rw [if_neg hp]
    rw [e]
    exact rshare_pos p m k w (by omega) h2 hm hM
end Go.Proofs.YtlkebffainhfaaaDoor
