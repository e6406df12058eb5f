/- The reference's count, Put and Number. -/
import Derived.Test.YtaefgieodehceaaDoorB11
namespace Go.Proofs.YtaefgieodehceaaDoor
set_option maxRecDepth 4000
open Go.RowKit

theorem count_take {l : List UInt8} (c : UInt8) (k : Nat) (hk : k < l.length) : (l.take (k + 1)).count c = (l.take k).count c + if l[k] = c then 1 else 0 := by
  rw [List.take_succ_eq_append_getElem hk, List.count_append, List.count_singleton]
  simp

set_option maxHeartbeats 1000000 in
theorem rnumber_any (B : Nat) (v : Value) (l : List UInt8) (w : World) (h : Bs w B v l) (hl : l.length ≤ 8) :
    Calls Tryd.prog 30 #[v] w fun e w' => e = .returned (.int .u64 (num l : Nat)) ∧ w = w' := by
  obtain ⟨A, c, rfl, hc, hr⟩ := h
  have HR := Lib.hid hr
  clear hr
  go_enter Tryd.func30, Tryd.ntmps30
  go_wp2
  go_loop [3, 4] (fun t i => ∃ k n : Nat, k ≤ l.length ∧ i = .int .i64 k ∧ t = .int .u64 n ∧ n < 256 ^ k ∧ Hid (num (l.take k) = n)) (fun _ i => l.length - (intOf i).toNat)
  case atStart => exact ⟨0, 0, by omega, rfl, rfl, by simp, rfl⟩
  case round =>
    obtain ⟨k, n, hk, rfl, rfl, hn, hs⟩ := hrel
    by_cases hlt : k < l.length
    · obtain ⟨b, o, rfl, hb, hcell⟩ := HR.out.get (k := k) (by simpa [bv] using hlt)
      simp [bv] at hcell
      have hn2 : n < 72057594037927936 := Nat.lt_of_lt_of_le hn (by
        have : (256 : Nat) ^ k ≤ 256 ^ 7 := Nat.pow_le_pow_right (by decide) (by omega)
        exact this)
      have hy := l[k].toNat_lt
      go_wp2
      go_round
      case rel => exact ⟨k + 1, n * 256 + l[k].toNat, by omega, by go_num, by go_num, by rw [Nat.pow_succ]; omega, by
        show num _ = _
        rw [List.take_succ_eq_append_getElem hlt, num_snoc, hs.out]⟩
      case measure => simp [intOf]; omega
    · go_wp2
      go_ret
      refine ⟨?_, rfl⟩
      have e := hs.out
      rw [List.take_of_length_le (by omega)] at e
      rw [e]
      rfl

def putRow (many n q : Nat) : Array Value := (bv (List.replicate q 0 ++ (be many n).drop q)).toArray

theorem putRow_start (many n : Nat) : madeCells #[Value.int .u8 0] many = putRow many n many := by
  unfold putRow
  rw [List.drop_of_length_le (by rw [be_length]; omega), List.append_nil]
  apply Array.ext
  · simp [size_madeCells, bv]
  · intro i h1 h2
    simp [madeCells, bv, Nat.mod_one]

theorem putRow_cell {many n p : Nat} : ∃ u, (putRow many n (p + 1))[p]? = some u := by
  have hl : p < (putRow many n (p + 1)).size := by simp [putRow, bv, be_length]; omega
  exact ⟨_, Array.getElem?_eq_getElem hl⟩

theorem putRow_set {many n p : Nat} (hp : p < many) :
    (putRow many n (p + 1)).setIfInBounds p (.int .u8 (((n / 2 ^ (8 * (many - (p + 1))) : Nat) : Int) % 256)) = putRow many n p := by
  have hv := beAt_val many n (many - (p + 1)) (by omega)
  rw [show many - (many - (p + 1) + 1) = p from by omega] at hv
  have hc : (((n / 2 ^ (8 * (many - (p + 1))) : Nat) : Int) % 256) = ((beAt many n p).toNat : Int) := by rw [hv]; simp
  have hd : (be many n).drop p = beAt many n p :: (be many n).drop (p + 1) := by
    rw [List.drop_eq_getElem_cons (by rw [be_length]; exact hp)]
    simp [be, beT]
  rw [hc]
  unfold putRow
  rw [hd, List.replicate_succ', List.append_assoc]
  unfold bv
  rw [List.map_append, List.map_append]
  simp [List.setIfInBounds_toArray]

theorem putRow_div {many n p : Nat} (hp : p < many) : n / 2 ^ (8 * (many - (p + 1))) / 256 = n / 2 ^ (8 * (many - p)) := by
  have e : 8 * (many - p) = 8 * (many - (p + 1)) + 8 := by omega
  rw [e, Nat.pow_add, Nat.div_div_eq_div_mul]

set_option maxHeartbeats 1000000 in
theorem rput_any (n many : Nat) (w : World) (hm : many ≤ 8) (hn : n < 18446744073709551616) :
    Calls Tryd.prog 26 #[.int .u64 (n : Int), .int .i64 (many : Int)] w fun e w' => ∃ v, e = .returned v ∧ w'.ownsRow w.heap.size 5 1 v many (bv (be many n)) ∧ Below w.heap.size w w' := by
  have hmk := run_make_row' (P := Tryd.prog) 22 5 (.int .u8 0) 1 Tryd.underlying22 Tryd.info5 rfl .i64 .i64 many (by omega) (by omega)
  go_enter Tryd.func26, Tryd.ntmps26
  go_wp2
  go_loopw [0, 6] (fun t i wr => ∃ q m : Nat, q ≤ many ∧ i = .int .i64 ((q : Int) - 1) ∧ t = .int .u64 (m : Int) ∧ m ≤ n ∧ Hid (m = n / 2 ^ (8 * (many - q))) ∧ wr.heap[w.heap.size]? = some (.cells (putRow many n q) 5 (0, 0)) ∧ Below w.heap.size w wr) (fun _ i _ => (intOf i + 1).toNat)
  case atStart => exact ⟨many, n, by omega, by go_num, rfl, by omega, by simp [Hid], by rw [← putRow_start]; exact heap_alloc_new _ _, (Below.refl _ _).alloc (Nat.le_refl _) _⟩
  case round =>
    obtain ⟨q, m, hq, hi, rfl, hmn, hs, hh, hb⟩ := hrel
    rcases q with _ | p
    · subst hi
      go_wp2
      go_ret
      refine ⟨_, rfl, ⟨by simp [bv, be_length], .inr ⟨w.heap.size, many, putRow many n 0, rfl, Nat.le_refl _, hh, Nat.le_refl _, by unfold maxLen; omega, by simp [putRow, bv, be_length], ?_⟩⟩, hb⟩
      simp [putRow]
      exact List.take_of_length_le (by simp [bv, be_length])
    · have e9 : (((p + 1 : Nat) : Int) - 1) = p := by omega
      rw [e9] at hi
      subst hi
      clear e9
      obtain ⟨u, hu⟩ := putRow_cell (many := many) (n := n) (p := p)
      have f0 : ∀ i, wr.frozen? ⟨w.heap.size, i, none⟩ = false := fun i => frozen_of_row wr _ i _ _ hh
      have g0 := cell_of_row wr w.heap.size p _ _ _ hh
      rw [hu] at g0
      go_wp2
      go_roundw
      case rel => exact ⟨p, m / 256, by omega, by go_num, by go_num, by omega, by rw [hs.out, putRow_div hq]; rfl, by rw [← putRow_set hq, ← hs.out]; exact heap_setCell_same wr _ p _ 5 _ hh, hb.setCell (by simp) _⟩
      case measure => simp [intOf] <;> omega
end Go.Proofs.YtaefgieodehceaaDoor
