/- Party: Concat of two lists; all; over. -/
import Derived.Test.YtjlpmdokmfmdiaaQ2
import Derived.Lib.AppendZeros
namespace Go.Proofs.Ytjlpmdokmfmdiaa.P
open Go.RowKit
set_option maxRecDepth 20000
set_option linter.unusedVariables false
set_option linter.unusedSimpArgs false

set_option maxHeartbeats 2000000 in
theorem grow_any (n : Nat) (w : World) (h0 : 0 < n) (hl : n ≤ 1000) :
    Calls Try.prog 157 #[.slice none 0 0, .int .i64 (n : Int)] w fun r w' => ∃ A c, r = .returned (.slice A 0 c) ∧ w'.ownsRow w.heap.size 26 1 (.slice A 0 c) 0 [] ∧ Below w.heap.size w w' := by
  obtain ⟨i0, hi0, hz0, hzz, hz2⟩ := info_parts info26
  obtain ⟨K, hK⟩ : ∃ K, K = grownCap w n 0 26 := ⟨_, rfl⟩
  have hK1 : n ≤ K := by rw [hK]; exact grownCap_ge w _ _ _
  have hKm : K ≤ maxLen := by rw [hK]; exact grownCap_le_maxLen w n 0 26 (by unfold maxLen; omega)
  obtain ⟨ROW, hROW⟩ : ∃ ROW : Array Value, ROW = Builtin.zeroCells (.int .u32 0 : Value).cells n ++ Builtin.zeroCells (.int .u32 0 : Value).cells (K - n) := ⟨_, rfl⟩
  obtain ⟨W1, hW1⟩ : ∃ W1, W1 = w.drew.alloc (.cells ROW 26) := ⟨_, rfl⟩
  obtain ⟨N, hN⟩ : ∃ N, N = w.heap.size := ⟨_, rfl⟩
  have hrz : ∀ ty, (Builtin.append_ #[34, 3] ty #[.slice none 0 0, .int .i64 (n : Int)]).run Try.prog w = .ok (.slice (some ⟨N, 0, none⟩) n K) W1 := fun ty => by
    have h := Lib.run_append_nil_zeros w 34 3 ty 26 i0 _ .i64 .i64 Try.underlying34 Try.underlying3 hi0 hz0 n h0 (by omega) (by omega) (by rw [hz2]; omega)
    rw [← hK, ← hROW, ← hW1, ← hN] at h
    exact h
  have hRl : ROW.size = K := by
    rw [hROW]
    simp [Builtin.zeroCells, Value.cells]
    omega
  have hN1 : W1.heap[N]? = some (.cells ROW 26 (0, 0)) := by rw [hW1, hN]; exact heap_alloc_new w.drew _
  have HOW : Hid (W1.ownsRow w.heap.size 26 1 (.slice (some ⟨N, 0, none⟩) 0 K) 0 []) := ⟨rfl, .inr ⟨N, K, ROW, rfl, by omega, hN1, Nat.zero_le _, hKm, by omega, rfl⟩⟩
  have HB : Hid (Below w.heap.size w W1) := by rw [hW1]; exact (Below.refl _ _).drew.alloc (Nat.le_refl _) _
  have hn0 : ¬ ((n : Int) < 0) := by omega
  have hn1 : (0 : Int) < n := by omega
  clear hROW hW1 hN1 hRl hK hN
  go_enter Try.func157, Try.ntmps157
  go_wp2_with (at_builtin; refine Lib.wpList_append_run _ rfl _ _ _ _ rfl _ _ rfl rfl _ _ (hrz _) ?_)
  go_ret
  exact ⟨_, _, rfl, HOW.out, HB.out⟩
/-- The two lists behind one another. -/
def sz2 (n1 n2 k : Nat) : Nat := if k = 0 then 0 else if k = 1 then n1 else n1 + n2
set_option maxHeartbeats 8000000 in
theorem concat_any (G : Nat) (A1 A2 : Option Addr) (n1 n2 c1 c2 : Nat) (l1 l2 : List Nat) (w : World) (hG : w.heap[G]? = some (.cells #[.slice A1 n1 c1, .slice A2 n2 c2] 34 (0, 0))) (hn1 : n1 = l1.length) (hR1 : Rn w A1 l1) (hn2 : n2 = l2.length) (hR2 : Rn w A2 l2) (h1 : 0 < n1) (hl : n1 + n2 ≤ 200) :
    Calls Try.prog 125 #[.slice (some ⟨G, 0, none⟩) 2 2] w fun r w' => ∃ A c, r = .returned (.slice A (n1 + n2) c) ∧ w'.ownsRow w.heap.size 26 1 (.slice A (n1 + n2) c) (n1 + n2) (un (l1 ++ l2)) ∧ Below w.heap.size w w' := by
  have hGw := lt_of_block hG
  have HC : Hid (∀ W, Below w.heap.size w W → W.cell? ⟨G, 0, none⟩ = some (.slice A1 n1 c1) ∧ W.cell? ⟨G, 1, none⟩ = some (.slice A2 n2 c2)) := fun W hW =>
    ⟨cell_of_row W G 0 _ _ _ ((hW.block _ hGw).trans hG), cell_of_row W G 1 _ _ _ ((hW.block _ hGw).trans hG)⟩
  have HR1 := Lib.hid hR1
  have HR2 := Lib.hid hR2
  have HN1 := Lib.hid hn1
  have HN2 := Lib.hid hn2
  have HBr : Hid (Below w.heap.size w w) := Below.refl _ _
  clear hG hGw hR1 hR2 hn1 hn2
  go_enter Try.func125, Try.ntmps125
  go_wp2_with fail
  go_loopw [3, 11] (fun s u wr => ∃ (k m : Nat), k ≤ 2 ∧ u = .int .i64 (k : Int) ∧ s = .int .i64 (m : Int) ∧ m ≤ 200 ∧ Hid (m = sz2 n1 n2 k) ∧ Hid (Below w.heap.size w wr)) (fun _ u _ => 2 - (intOf u).toNat)
  case atStart => exact ⟨0, 0, by omega, rfl, rfl, by omega, rfl, HBr.out⟩
  case round =>
    obtain ⟨k, m, hk, rfl, rfl, hm, HM, HB⟩ := hrel
    obtain ⟨d0, d1⟩ := HC.out wr HB.out
    by_cases h0 : k = 0
    · subst h0
      have e : m = 0 := HM.out
      subst e
      have hnn : ¬ ((n1 : Int) < 0) := by omega
      go_wp2
      go_roundw
      case rel => exact ⟨1, n1, by omega, rfl, rfl, by omega, rfl, HB.out⟩
      case measure => simp [intOf] <;> omega
    · by_cases h1' : k = 1
      · subst h1'
        have e : m = n1 := HM.out
        subst e
        have hnn : ¬ ((m : Int) + (n2 : Int) < 0) := by omega
        go_wp2
        go_roundw
        case rel => exact ⟨2, m + n2, by omega, rfl, by go_num, by omega, rfl, HB.out⟩
        case measure => simp [intOf] <;> omega
      · obtain rfl : k = 2 := by omega
        have e : m = n1 + n2 := HM.out
        have HGR := Lib.hid (grow_any m wr (by omega) (by omega))
        have HME := Lib.hid e
        clear e d0 d1
        go_wp2_with fail
        refine HGR.out.mono ?_
        rintro r w3 ⟨A3, c3, rfl, ho3, hb3⟩
        have HB3 : Hid (Below w.heap.size w w3) := HB.out.trans (hb3.mono HB.out.size)
        have HO3 : Hid (w3.ownsRow w.heap.size 26 1 (.slice A3 0 c3) 0 []) := ⟨ho3.1, ho3.2.imp id fun ⟨g, cap, cur, e, h1, h2⟩ => ⟨g, cap, cur, e, Nat.le_trans HB.out.size h1, h2⟩⟩
        clear ho3 hb3
        go_wp2_with fail
        go_loopw [6, 27] (fun o u wx => ∃ (j : Nat) (A : Option Addr) (c : Nat), j ≤ 2 ∧ u = .int .i64 (j : Int) ∧ o = .slice A (sz2 n1 n2 j) c ∧ Hid (wx.ownsRow w.heap.size 26 1 (.slice A (sz2 n1 n2 j) c) (sz2 n1 n2 j) (un ((if j = 0 then [] else l1) ++ (if j = 2 then l2 else [])))) ∧ Hid (Below w.heap.size w wx)) (fun _ u _ => 2 - (intOf u).toNat)
        case atStart => exact ⟨0, A3, c3, by omega, rfl, rfl, HO3.out, HB3.out⟩
        case round =>
          obtain ⟨j, A, c, hj, rfl, rfl, HO, HBX⟩ := hrel
          obtain ⟨d0, d1⟩ := HC.out wr HBX.out
          have hws := HBX.out.size
          by_cases hj0 : j = 0
          · subst hj0
            have HO : Hid (wr.ownsRow w.heap.size 26 1 (.slice A 0 c) 0 (un [])) := HO
            have hRx : Rn wr A1 l1 := fun hl => by
              obtain ⟨b, o, e1, e2, e3⟩ := HR1.out hl
              exact ⟨b, o, e1, Nat.lt_of_lt_of_le e2 hws, fun i x hx => (HBX.out.cell (p := ⟨b, _, none⟩) e2).trans (e3 i x hx)⟩
            obtain ⟨v', w', hr, h2, h3⟩ := app_rn wr w.heap.size 34 0 (.slice A 0 c) (un []) HO.out A1 n1 c1 l1 HN1.out hRx (by omega) hws
            obtain ⟨A', c', rfl⟩ := own_form1 h2
            have HO2 : Hid (w'.ownsRow w.heap.size 26 1 (.slice A' (sz2 n1 n2 1) c') (sz2 n1 n2 1) (un ((if 1 = 0 then [] else l1) ++ (if 1 = 2 then l2 else [])))) := by
              simp only [Hid]
              simpa [sz2, un] using h2
            have HB2 : Hid (Below w.heap.size w w') := HBX.out.grown h3 hws (fun g h => (ownlt HO.out g h).1)
            have hzz : sz2 n1 n2 0 = 0 := rfl
            have hz1 : 0 + n1 = n1 := by omega
            have hz2 : sz2 n1 n2 1 = n1 := rfl
            rw [hz1] at hr
            rw [hz2] at HO2
            clear h2 h3 hRx
            rw [hzz]
            go_wp2_with (at_builtin; refine Lib.wpList_append_run _ rfl _ _ _ _ rfl _ _ rfl rfl _ _ hr ?_)
            go_roundw
            case rel => exact ⟨1, A', c', by omega, rfl, rfl, HO2.out, HB2.out⟩
            case measure => simp [intOf] <;> omega
          · by_cases hj1 : j = 1
            · subst hj1
              have HO : Hid (wr.ownsRow w.heap.size 26 1 (.slice A n1 c) n1 (un l1)) := by
                have h := HO.out
                simp only [Hid]
                simpa [sz2] using h
              have hRx : Rn wr A2 l2 := fun hl => by
                obtain ⟨b, o, e1, e2, e3⟩ := HR2.out hl
                exact ⟨b, o, e1, Nat.lt_of_lt_of_le e2 hws, fun i x hx => (HBX.out.cell (p := ⟨b, _, none⟩) e2).trans (e3 i x hx)⟩
              obtain ⟨v', w', hr, h2, h3⟩ := app_rn wr w.heap.size 34 n1 (.slice A n1 c) (un l1) HO.out A2 n2 c2 l2 HN2.out hRx (by omega) hws
              obtain ⟨A', c', rfl⟩ := own_form1 h2
              have HO2 : Hid (w'.ownsRow w.heap.size 26 1 (.slice A' (sz2 n1 n2 2) c') (sz2 n1 n2 2) (un ((if 2 = 0 then [] else l1) ++ (if 2 = 2 then l2 else [])))) := by
                simp only [Hid]
                simpa [sz2, un] using h2
              have HB2 : Hid (Below w.heap.size w w') := HBX.out.grown h3 hws (fun g h => (ownlt HO.out g h).1)
              have hzz : sz2 n1 n2 1 = n1 := rfl
              have hz2 : sz2 n1 n2 2 = n1 + n2 := rfl
              rw [hz2] at HO2
              clear h2 h3 hRx
              rw [hzz]
              go_wp2_with (at_builtin; refine Lib.wpList_append_run _ rfl _ _ _ _ rfl _ _ rfl rfl _ _ hr ?_)
              go_roundw
              case rel => exact ⟨2, A', c', by omega, rfl, rfl, HO2.out, HB2.out⟩
              case measure => simp [intOf] <;> omega
            · obtain rfl : j = 2 := by omega
              have HO : Hid (wr.ownsRow w.heap.size 26 1 (.slice A (n1 + n2) c) (n1 + n2) (un (l1 ++ l2))) := by
                have h := HO.out
                simp only [Hid]
                simpa [sz2] using h
              have hzz : sz2 n1 n2 2 = n1 + n2 := rfl
              rw [hzz]
              go_wp2
              go_ret
              exact ⟨_, _, rfl, HO.out, HBX.out⟩
end Go.Proofs.Ytjlpmdokmfmdiaa.P
