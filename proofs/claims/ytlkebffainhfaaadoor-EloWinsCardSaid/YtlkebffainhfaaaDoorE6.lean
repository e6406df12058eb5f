/- Elo: teams; behind a stake; Update. -/
import Derived.Test.YtlkebffainhfaaaDoorE5
import Derived.Laws.MakeOwn
import Derived.Laws.OwnMore
import Derived.OwnWalk
import Derived.Deep.OwnRows
namespace Go.Proofs.YtlkebffainhfaaaDoor
open Go.RowKit
set_option maxRecDepth 20000

/-- As many as a team may have? -/
def tm (n : Nat) : Bool := decide (1 ≤ n) && decide (n ≤ 4)
set_option maxHeartbeats 400000 in
theorem team_any (v : Value) (l : List Int) (w : World) (hz : Zs w v l) (hn : l.length ≤ 1000) : Calls Tryd.prog 26 #[v] w fun r w' => r = .returned (.bool (tm l.length)) ∧ w' = w := by
  obtain ⟨A, c, rfl, hc, -⟩ := hz
  generalize l.length = n at *
  by_cases h1 : 1 ≤ n
  · by_cases h4 : n ≤ 4
    · have e : tm n = true := by simp [tm, h1, h4]
      rw [e]
      have g1 : decide ((1 : Int) ≤ (n : Int)) = true := by simp; omega
      have g2 : decide ((n : Int) ≤ 4) = true := by simp; omega
      have g3 : (1 : Int) ≤ (n : Int) := by omega
      have g4 : (n : Int) ≤ 4 := by omega
      clear e
      go_enter Tryd.func26, Tryd.ntmps26
      go_wp2
      go_ret
      exact ⟨rfl, rfl⟩
    · have e : tm n = false := by simp [tm, h4]
      rw [e]
      have g3 : (1 : Int) ≤ (n : Int) := by omega
      have g4 : ¬ (n : Int) ≤ 4 := by omega
      clear e
      go_enter Tryd.func26, Tryd.ntmps26
      go_wp2
      go_ret
      exact ⟨rfl, rfl⟩
  · have h0 : n = 0 := by omega
    subst h0
    go_enter Tryd.func26, Tryd.ntmps26
    go_wp2
    go_ret
    exact ⟨rfl, rfl⟩

/-- Are all of them ratings? -/
def okr (l : List Int) : Bool := l.all fun x => decide (0 ≤ x) && decide (x ≤ 10000)
theorem okr_iff (l : List Int) : okr l = true ↔ ∀ k (hk : k < l.length), 0 ≤ l[k] ∧ l[k] ≤ 10000 := by
  unfold okr
  rw [List.all_eq_true]
  constructor
  · intro h k hk
    have := h l[k] (List.getElem_mem hk)
    simpa using this
  · intro h x hx
    obtain ⟨k, hk, rfl⟩ := List.getElem_of_mem hx
    have := h k hk
    simpa using this
theorem okr_bad {l : List Int} {k : Nat} (hk : k < l.length) (h : ¬ (0 ≤ l[k] ∧ l[k] ≤ 10000)) : okr l = false := by
  cases e : okr l
  · rfl
  · exact absurd ((okr_iff l).1 e k hk) h

set_option maxHeartbeats 400000 in
theorem right_any (v : Value) (l : List Int) (w : World) (hz : Zs w v l) (hn : l.length ≤ 1000) : Calls Tryd.prog 27 #[v] w fun r w' => r = .returned (.bool (okr l)) ∧ w' = w := by
  obtain ⟨A, c, rfl, hc, hr⟩ := hz
  by_cases h0 : l.length = 0
  · have hl : l = [] := List.eq_nil_of_length_eq_zero h0
    subst hl
    clear hr
    go_enter Tryd.func27, Tryd.ntmps27
    go_wp2
    refine wp_loop_rounds 1 ?_
    rw [rounds_succ]
    go_wp2
    go_ret
    exact ⟨rfl, rfl⟩
  · obtain ⟨b, o, rfl, hb, hcell⟩ := hr (by omega)
    have HC := Lib.hid hcell
    have h1 : 0 < l.length := by omega
    clear hcell hr h0
    obtain ⟨res, hres⟩ : ∃ res, res = okr l := ⟨_, rfl⟩
    rw [← hres]
    have HR := Lib.hid hres
    clear hres
    go_enter Tryd.func27, Tryd.ntmps27
    go_wp2
    go_loop [4, 7] (fun _ i => ∃ k : Nat, k ≤ l.length ∧ i = .int .i64 k ∧ Hid (∀ j (hj : j < l.length), j < k → 0 ≤ l[j] ∧ l[j] ≤ 10000)) (fun _ i => l.length - (intOf i).toNat)
    case atStart => exact ⟨0, Nat.zero_le _, rfl, fun j _ h => absurd h (Nat.not_lt_zero _)⟩
    case round =>
      obtain ⟨k, hk, rfl, HA⟩ := hrel
      by_cases hlt : k < l.length
      · have hcell := HC.out k hlt
        by_cases hg : 0 ≤ l[k] ∧ l[k] ≤ 10000
        · have HA' : Hid (∀ j (hj : j < l.length), j < k + 1 → 0 ≤ l[j] ∧ l[j] ≤ 10000) := fun j hj h => by
            rcases (by omega : j < k ∨ j = k) with h | rfl
            · exact HA.out j hj h
            · exact hg
          have HI := Lib.hid (rt_id hg.1 hg.2)
          obtain ⟨x, hx⟩ : ∃ x, x = l[k] := ⟨_, rfl⟩
          rw [← hx] at hcell HI
          have hbe : (x != x) = false := by simp
          clear hg hx
          go_wp2_with fail
          refine (within_any _ _).mono ?_
          rintro e w' ⟨rfl, rfl⟩
          rw [HI.out]
          go_wp2
          go_round
          case rel => exact ⟨k + 1, by omega, by go_num, HA'⟩
          case measure => simp [intOf]; omega
        · have hf := okr_bad hlt hg
          obtain ⟨x, hx⟩ : ∃ x, x = l[k] := ⟨_, rfl⟩
          rw [← hx] at hcell hg
          obtain ⟨y, hy⟩ : ∃ y, y = rt x := ⟨_, rfl⟩
          have hne : x ≠ y := by
            have := rt_bd x
            rw [← hy] at this
            intro e
            rw [← e] at this
            omega
          have hbe : (x == y) = false := by simpa using hne
          have hbe2 : (x != y) = true := by simpa using hne
          have HY := Lib.hid hy
          have HF := Lib.hid hf
          clear hx hg hne hf hy
          go_wp2_with fail
          refine (within_any _ _).mono ?_
          rintro e w' ⟨rfl, rfl⟩
          rw [← HY.out]
          go_wp2
          go_ret
          exact ⟨by rw [HR.out, HF.out]; rfl, rfl⟩
      · obtain rfl : k = l.length := by omega
        have hf : okr l = true := (okr_iff l).2 fun k hk => HA.out k hk hk
        have HF := Lib.hid hf
        clear hf
        go_wp2
        go_ret
        exact ⟨by rw [HR.out, HF.out]; rfl, rfl⟩

/-- A team's ratings behind so many points. -/
def bhd (p : Int) (l : List Int) : List Int := l.mapIdx fun k x => rt (x + shr p l.length k)
theorem bhd_length (p : Int) (l : List Int) : (bhd p l).length = l.length := by simp [bhd]
theorem bhd_get (p : Int) (l : List Int) (k : Nat) (hk : k < l.length) : (bhd p l)[k]'(by rw [bhd_length]; exact hk) = rt (l[k] + shr p l.length k) := by simp [bhd]
def rowB (p : Int) (l : List Int) (k : Nat) : List Int := (bhd p l).take k ++ List.replicate (l.length - k) 0
theorem rowB_length (p : Int) (l : List Int) (k : Nat) (hk : k ≤ l.length) : (rowB p l k).length = l.length := by
  simp [rowB, bhd_length]; omega
theorem rowB_succ (p : Int) (l : List Int) (k : Nat) (hk : k < l.length) : (rowB p l k).set k (rt (l[k] + shr p l.length k)) = rowB p l (k + 1) := by
  have hl : k < (bhd p l).length := by rw [bhd_length]; exact hk
  have ht : ((bhd p l).take k).length = k := by rw [List.length_take]; omega
  unfold rowB
  rw [show l.length - k = (l.length - (k + 1)) + 1 by omega, List.replicate_succ, List.set_append_right _ _ (by omega), ht, Nat.sub_self, List.set_cons_zero, List.take_succ_eq_append_getElem hl, bhd_get p l k hk, List.append_assoc]
  rfl
theorem rowB_end (p : Int) (l : List Int) : rowB p l l.length = bhd p l := by
  unfold rowB
  rw [Nat.sub_self, List.replicate_zero, List.append_nil, List.take_of_length_le (by rw [bhd_length]; omega)]
theorem rowB_start (p : Int) (l : List Int) : rowB p l 0 = List.replicate l.length 0 := by simp [rowB]
def zv (l : List Int) : List Value := l.map (Value.int .i64)
theorem z_set {w : World} {g t k : Nat} {l : List Int} {y : Int} (h : w.heap[g]? = some (.cells (zv l).toArray t (0, 0))) : (w.setCell ⟨g, k, none⟩ (.int .i64 y)).heap[g]? = some (.cells (zv (l.set k y)).toArray t (0, 0)) := by
  rw [heap_setCell_same w g k _ t _ h]
  congr 2
  simp [zv, List.map_set]
theorem z_cell {w : World} {g t k : Nat} {l : List Int} (h : w.heap[g]? = some (.cells (zv l).toArray t (0, 0))) (hk : k < l.length) : w.cell? ⟨g, k, none⟩ = some (.int .i64 l[k]) := by
  rw [cell_of_row w g k _ _ _ h]
  simp [zv, hk]
theorem z_zs {w : World} {g t : Nat} {l : List Int} (h : w.heap[g]? = some (.cells (zv l).toArray t (0, 0))) : Zs w (.slice (some ⟨g, 0, none⟩) l.length l.length) l :=
  ⟨_, _, rfl, Nat.le_refl _, fun _ => ⟨g, 0, rfl, lt_of_block h, fun j hj => by rw [Nat.zero_add]; exact z_cell h hj⟩⟩
theorem Tryd.info3 : (Tryd.prog.info? 3).map (fun i => (i.zero, i.size, i.bytes)) = some (some (.int .i64 0), 1, 8) := by kernel_rfl

theorem mkInt (n : Nat) : madeCells #[.int .i64 0] n = (zv (List.replicate n 0)).toArray := by
  apply Array.ext
  · simp [madeCells, zv]
  · intro i h1 h2
    simp [madeCells, zv, Nat.mod_one]
set_option maxHeartbeats 400000 in
theorem behind_any (p : Int) (v : Value) (l : List Int) (w : World) (hz : Zs w v l) (hn : 1 ≤ l.length) (hn4 : l.length ≤ 4) (hb : ∀ k (hk : k < l.length), 0 ≤ l[k] ∧ l[k] ≤ 10000) (hp0 : -128 ≤ p) (hp1 : p ≤ 128) :
    Calls Tryd.prog 28 #[.int .i64 p, v] w fun r w' => r = .returned (.slice (some ⟨w.heap.size, 0, none⟩) l.length l.length) ∧ w'.heap[w.heap.size]? = some (.cells (zv (bhd p l)).toArray 3 (0, 0)) ∧ Below w.heap.size w w' := by
  have HZ := Lib.hid hz
  obtain ⟨A, c, rfl, hc, hr⟩ := hz
  obtain ⟨b, o, rfl, hbb, hcell⟩ := hr (by omega)
  have HC := Lib.hid hcell
  have HB := Lib.hid hb
  clear hcell hr hb
  obtain ⟨n, hnl⟩ : ∃ n, n = l.length := ⟨_, rfl⟩
  obtain ⟨w0, hw0⟩ : ∃ w0, w0 = w.alloc (.cells (zv (List.replicate n 0)).toArray 3) := ⟨_, rfl⟩
  have hmk : (Instr.makeSlice 23 (.int .i64 (n : Int)) (.int .i64 (n : Int))).run Tryd.prog w = .ok (.slice (some ⟨w.heap.size, 0, none⟩) n n) w0 := by
    rw [hw0, ← mkInt n]
    exact run_make_row' (P := Tryd.prog) 23 3 (.int .i64 0) 8 Tryd.underlying23 Tryd.info3 rfl .i64 .i64 n (by omega) (by omega) w
  have hq0 : w0.heap[w.heap.size]? = some (.cells (zv (rowB p l 0)).toArray 3 (0, 0)) := by rw [hw0, rowB_start, ← hnl]; exact heap_alloc_new w _
  have hb0 : Below w.heap.size w w0 := by rw [hw0]; exact (Below.refl _ _).alloc (Nat.le_refl _) _
  have HB0 := Lib.hid hb0
  have HQ0 := Lib.hid hq0
  have HNL := Lib.hid hnl
  have HBG : Hid (b < w.heap.size) := hbb
  rw [← hnl] at hc hn hn4 ⊢
  clear hw0 hq0 hb0 hnl
  go_enter Tryd.func28, Tryd.ntmps28
  go_wp2
  go_loopw [6, 7, 13] (fun _ _ i wr => ∃ k : Nat, k ≤ n ∧ i = .int .i64 k ∧ Hid (wr.heap[w.heap.size]? = some (.cells (zv (rowB p l k)).toArray 3 (0, 0))) ∧ Hid (Below w.heap.size w wr)) (fun _ _ i _ => n - (intOf i).toNat)
  case atStart => exact ⟨0, Nat.zero_le _, rfl, HQ0.out, HB0.out⟩
  case round =>
    obtain ⟨k, hk, rfl, HQ, HBW⟩ := hrel
    by_cases hlt : k < n
    · have hkl : k < l.length := by rw [← HNL.out]; exact hlt
      have hx := HB.out k hkl
      have hcell : wr.cell? ⟨b, o + k, none⟩ = some (.int .i64 l[k]) := (HBW.out.cell (p := ⟨b, o + k, none⟩) HBG.out).trans (HC.out k hkl)
      have HSC := Lib.hid (rowB_succ p l k hkl)
      obtain ⟨x, hxe⟩ : ∃ x, x = l[k] := ⟨_, rfl⟩
      rw [← hxe] at hx hcell HSC
      have hsb := shr_bd p l.length k
      rw [← HNL.out] at hsb HSC
      obtain ⟨s, hs⟩ : ∃ s, s = shr p n k := ⟨_, rfl⟩
      rw [← hs] at hsb HSC
      have hcS : Hid (∀ W, Calls Tryd.prog 17 #[.int .i64 p, .int .i64 (n : Int), .int .i64 (k : Int)] W fun e w' => e = .returned (.int .i64 s) ∧ ∃ q, w' = W.drewN q) := fun W => by rw [hs]; exact share_any p n k W (by omega) (by omega) (by omega) (by omega)
      clear hs hxe
      go_wp2_with fail
      refine (hcS.out _).mono ?_
      rintro e w1 ⟨rfl, q, rfl⟩
      go_wp2_with fail
      refine (within_any _ _).mono ?_
      rintro e w1 ⟨rfl, rfl⟩
      have hcw := z_cell (w := wr.drewN q) (k := k) HQ.out (by rw [rowB_length _ _ _ (by omega)]; omega)
      have hfw := frozen_of_row (wr.drewN q) w.heap.size k _ _ HQ.out
      go_wp2
      go_roundw
      case rel =>
        refine ⟨k + 1, by omega, by go_num, ?_, ?_⟩
        · have := z_set (w := wr.drewN q) (g := w.heap.size) (k := k) (y := rt (x + s)) HQ.out
          rw [HSC.out] at this
          exact this
        · exact (below_drewN HBW.out q).setCell (Nat.le_refl _) _
      case measure => simp [intOf]; omega
    · obtain rfl : k = n := by omega
      go_wp2
      go_ret
      refine ⟨rfl, ?_, HBW.out⟩
      have := HQ.out
      rw [show rowB p l k = bhd p l by rw [HNL.out]; exact rowB_end p l] at this
      exact this
end Go.Proofs.YtlkebffainhfaaaDoor
