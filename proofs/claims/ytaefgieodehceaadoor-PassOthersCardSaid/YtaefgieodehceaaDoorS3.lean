/- SHA-256: a contract for spread. -/
import Derived.Test.YtaefgieodehceaaDoorS2
import Derived.LoopTactic
import Derived.Deep.MidRow
import Derived.Laws.CopyOwn
import Derived.Deep.CutRange
namespace Go.Proofs.YtaefgieodehceaaDoor.Sha
set_option maxRecDepth 4000
open Go.RowKit

def bv (l : List UInt8) : List Value := l.map fun c => .int .u8 (c.toNat : Int)

theorem Tryd.size63 : (Tryd.prog.info? 63).map (·.size) = some 64 := by kernel_rfl
theorem Tryd.size112 : (Tryd.prog.info? 112).map (·.size) = some 64 := by kernel_rfl
theorem Tryd.size92 : (Tryd.prog.info? 92).map (·.size) = some 8 := by kernel_rfl

theorem run_index_row (w : World) (t e n : Nat) (cs : Array Value) (k : Nat) (v : Value) (hu : Tryd.prog.underlying t = some (.array n e)) (hs : (Tryd.prog.info? e).map (·.size) = some 1)
    (ha : ∀ w, (isAgg e).run Tryd.prog w = .ok false w) (hk : k < n) (hv : cs[k]? = some v) :
    (Instr.index t (.agg cs) (.int .i64 (k : Int))).run Tryd.prog w = .ok v w := by
  cases hq : Tryd.prog.info? e with
  | none => simp [hq] at hs
  | some i =>
    have h1 : i.size = 1 := by simpa [hq] using hs
    simp [Instr.index, asIntOf, Sem.run_bind, run_underlying hu, hk, part, sizeOf, typeInfo, hq, h1, ha, hv]
theorem Tryd.size5 : (Tryd.prog.info? 5).map (·.size) = some 1 := by kernel_rfl
theorem Tryd.size23 : (Tryd.prog.info? 23).map (·.size) = some 1 := by kernel_rfl
theorem Tryd.plain5 (w : World) : (isAgg 5).run Tryd.prog w = .ok false w := by kernel_rfl
theorem Tryd.plain23 (w : World) : (isAgg 23).run Tryd.prog w = .ok false w := by kernel_rfl

/-- 64 words that are 0. -/
def z64 : Array Value := #[Value.int .u32 0, Value.int .u32 0, Value.int .u32 0, Value.int .u32 0, Value.int .u32 0, Value.int .u32 0, Value.int .u32 0, Value.int .u32 0, Value.int .u32 0, Value.int .u32 0, Value.int .u32 0, Value.int .u32 0, Value.int .u32 0, Value.int .u32 0, Value.int .u32 0, Value.int .u32 0, Value.int .u32 0, Value.int .u32 0, Value.int .u32 0, Value.int .u32 0, Value.int .u32 0, Value.int .u32 0, Value.int .u32 0, Value.int .u32 0, Value.int .u32 0, Value.int .u32 0, Value.int .u32 0, Value.int .u32 0, Value.int .u32 0, Value.int .u32 0, Value.int .u32 0, Value.int .u32 0, Value.int .u32 0, Value.int .u32 0, Value.int .u32 0, Value.int .u32 0, Value.int .u32 0, Value.int .u32 0, Value.int .u32 0, Value.int .u32 0, Value.int .u32 0, Value.int .u32 0, Value.int .u32 0, Value.int .u32 0, Value.int .u32 0, Value.int .u32 0, Value.int .u32 0, Value.int .u32 0, Value.int .u32 0, Value.int .u32 0, Value.int .u32 0, Value.int .u32 0, Value.int .u32 0, Value.int .u32 0, Value.int .u32 0, Value.int .u32 0, Value.int .u32 0, Value.int .u32 0, Value.int .u32 0, Value.int .u32 0, Value.int .u32 0, Value.int .u32 0, Value.int .u32 0, Value.int .u32 0]
theorem z64_eq : z64 = (wv (List.replicate 64 0)).toArray := rfl
theorem z64_lit : #[Value.int .u32 0, Value.int .u32 0, Value.int .u32 0, Value.int .u32 0, Value.int .u32 0, Value.int .u32 0, Value.int .u32 0, Value.int .u32 0, Value.int .u32 0, Value.int .u32 0, Value.int .u32 0, Value.int .u32 0, Value.int .u32 0, Value.int .u32 0, Value.int .u32 0, Value.int .u32 0, Value.int .u32 0, Value.int .u32 0, Value.int .u32 0, Value.int .u32 0, Value.int .u32 0, Value.int .u32 0, Value.int .u32 0, Value.int .u32 0, Value.int .u32 0, Value.int .u32 0, Value.int .u32 0, Value.int .u32 0, Value.int .u32 0, Value.int .u32 0, Value.int .u32 0, Value.int .u32 0, Value.int .u32 0, Value.int .u32 0, Value.int .u32 0, Value.int .u32 0, Value.int .u32 0, Value.int .u32 0, Value.int .u32 0, Value.int .u32 0, Value.int .u32 0, Value.int .u32 0, Value.int .u32 0, Value.int .u32 0, Value.int .u32 0, Value.int .u32 0, Value.int .u32 0, Value.int .u32 0, Value.int .u32 0, Value.int .u32 0, Value.int .u32 0, Value.int .u32 0, Value.int .u32 0, Value.int .u32 0, Value.int .u32 0, Value.int .u32 0, Value.int .u32 0, Value.int .u32 0, Value.int .u32 0, Value.int .u32 0, Value.int .u32 0, Value.int .u32 0, Value.int .u32 0, Value.int .u32 0] = z64 := rfl

/-- The row while the first loop lays the block's bytes: behind i of them. -/
def rowAt (bl : List UInt8) (i : Nat) : List W32 := (List.range 64).map fun j => wd (((bl.take i).drop (4 * j)).take 4)

theorem wd_snoc (l : List UInt8) (c : UInt8) : wd (l ++ [c]) = wor (wshl (wd l) 8) (wbyte c) := by simp [wd]
theorem or_byte32 (x : W32) (c : UInt8) : bits .or .u32 (iv x * 256 % 4294967296) ((c.toNat : Int) % 4294967296) = iv (wor (wshl x 8) (wbyte c)) := by
  have e1 := iv_shlm x 8
  have e2 : (2 : Int) ^ 8 = 256 := rfl
  rw [e2] at e1
  have e3 : (c.toNat : Int) % 4294967296 = iv (wbyte c) := by
    rw [iv_byte c]
    have h1 := iv_nonneg (wbyte c)
    have h2 := iv_lt (wbyte c)
    omega
  rw [e1, e3, iv_or]
theorem seg_succ (bl : List UInt8) (k j : Nat) (hk : k < bl.length) :
    ((bl.take (k + 1)).drop (4 * j)).take 4 = if j = k / 4 then ((bl.take k).drop (4 * j)).take 4 ++ [bl[k]] else ((bl.take k).drop (4 * j)).take 4 := by
  rw [List.take_succ_eq_append_getElem hk, List.drop_append]
  have hl : (bl.take k).length = k := by simp; omega
  rw [hl]
  split
  · rename_i h
    have hd : ((bl.take k).drop (4 * j)).length ≤ 3 := by rw [List.length_drop, hl]; omega
    rw [show 4 * j - k = 0 by omega, List.drop_zero, List.take_of_length_le (l := _ ++ _) (by rw [List.length_append]; simp only [List.length_singleton]; omega), List.take_of_length_le (l := List.drop _ _) (by omega)]
  · rename_i h
    by_cases h2 : 4 * j ≤ k
    · rw [List.take_append_of_le_length (by simp; omega)]
    · rw [List.drop_of_length_le (l := [bl[k]]) (by simp; omega), List.append_nil]
theorem rowAt_succ (bl : List UInt8) (k : Nat) (hk : k < bl.length) :
    rowAt bl (k + 1) = (rowAt bl k).set (k / 4) (wor (wshl ((rowAt bl k).getD (k / 4) 0) 8) (wbyte bl[k])) := by
  apply List.ext_getElem?
  intro j
  by_cases hj : j < 64
  · have e1 : (rowAt bl (k + 1))[j]? = some (wd (((bl.take (k + 1)).drop (4 * j)).take 4)) := by simp [rowAt, hj]
    have e2 : (rowAt bl k)[j]? = some (wd (((bl.take k).drop (4 * j)).take 4)) := by simp [rowAt, hj]
    rw [e1, List.getElem?_set, seg_succ bl k j hk]
    by_cases h : j = k / 4
    · have e3 : (rowAt bl k).getD (k / 4) 0 = wd (((bl.take k).drop (4 * (k / 4))).take 4) := by
        rw [List.getD_eq_getElem?_getD, ← h, e2]
        rfl
      rw [if_pos h, wd_snoc, if_pos h.symm, e3, if_pos (by simp [rowAt]; omega), h]
    · rw [if_neg h, if_neg (fun e => h e.symm), e2]
  · rw [List.getElem?_eq_none (by simp [rowAt]; omega), List.getElem?_eq_none (by simp [rowAt]; omega)]
theorem rowAt_end (bl : List UInt8) (h64 : bl.length = 64) : rowAt bl 64 = rowK bl 0 ++ List.replicate 48 0 := by
  apply List.ext_getElem?
  intro j
  by_cases hj : j < 16
  · rw [List.getElem?_append_left (by simp [rowK, row16]; omega)]
    simp [rowAt, rowK, row16, hj, show j < 64 by omega, List.take_of_length_le (show bl.length ≤ 64 by omega)]
  · rw [List.getElem?_append_right (by simp [rowK, row16]; omega)]
    have e : ((bl.take 64).drop (4 * j)).take 4 = [] := by
      rw [List.drop_of_length_le (by simp; omega)]
      rfl
    by_cases h2 : j < 64
    · simp only [rowAt, rowK, row16, List.getElem?_map, List.getElem?_range h2, Option.map_some, e, List.length_map, List.length_range]
      rw [List.getElem?_replicate, if_pos (by omega)]
      rfl
    · rw [List.getElem?_eq_none (by simp [rowAt]; omega), List.getElem?_eq_none (by simp [rowK, row16]; omega)]

theorem sg0_of (a : W32) : bits .xor .u32 (bits .xor .u32 (iv (rotr a 7)) (iv (rotr a 18))) (iv a / 8) = iv (sg0 a) := by
  rw [iv_xor, show (8 : Int) = 2 ^ 3 from rfl, iv_shr', iv_xor]
  rfl
theorem sg1_of (a : W32) : bits .xor .u32 (bits .xor .u32 (iv (rotr a 17)) (iv (rotr a 19))) (iv a / 1024) = iv (sg1 a) := by
  rw [iv_xor, show (1024 : Int) = 2 ^ 10 from rfl, iv_shr', iv_xor]
  rfl
theorem sum4 (a b c d : W32) : (iv a + iv b + iv c + iv d) % 4294967296 = iv (wadd (wadd (wadd a b) c) d) := by
  rw [← iv_addm, ← iv_addm, ← iv_addm]
  omega

theorem row_next (bl : List UInt8) (k : Nat) (h16 : 16 ≤ k) (hk : k < 64) :
    rowK bl (k + 1 - 16) ++ List.replicate (64 - (k + 1)) 0 = (rowK bl (k - 16) ++ List.replicate (64 - k) 0).set k
      (wadd (wadd (wadd ((rowK bl (k - 16) ++ List.replicate (64 - k) 0).getD (k - 16) 0) (sg0 ((rowK bl (k - 16) ++ List.replicate (64 - k) 0).getD (k - 15) 0))) ((rowK bl (k - 16) ++ List.replicate (64 - k) 0).getD (k - 7) 0)) (sg1 ((rowK bl (k - 16) ++ List.replicate (64 - k) 0).getD (k - 2) 0))) := by
  obtain ⟨n, rfl⟩ : ∃ n, k = n + 16 := ⟨k - 16, by omega⟩
  have hl := rowK_length bl n
  have hg : ∀ j, j < 16 + n → (rowK bl n ++ List.replicate (64 - (n + 16)) 0).getD j 0 = (rowK bl n).getD j 0 := fun j hj => by
    rw [List.getD_eq_getElem?_getD, List.getElem?_append_left (by omega), List.getD_eq_getElem?_getD]
  rw [show n + 16 + 1 - 16 = n + 1 by omega, show n + 16 - 16 = n by omega, hg _ (by omega), hg _ (by omega), hg _ (by omega), hg _ (by omega)]
  simp only [rowK, rowNext, hl]
  rw [show 64 - (n + 16) = (64 - (n + 16 + 1)) + 1 by omega, List.replicate_succ, List.set_append_right _ _ (by omega), hl, show n + 16 - (16 + n) = 0 by omega, List.set_cons_zero, List.append_assoc]
  rw [show 16 + n - 16 = n by omega, show 16 + n - 15 = n + 16 - 15 by omega, show 16 + n - 7 = n + 16 - 7 by omega, show 16 + n - 2 = n + 16 - 2 by omega]
  rfl

/-- A store into a row of words. -/
theorem row_set {w : World} {g t k : Nat} {l : List W32} {y : W32} (h : w.heap[g]? = some (.cells (wv l).toArray t (0, 0))) : (w.setCell ⟨g, k, none⟩ (.int .u32 (iv y))).heap[g]? = some (.cells (wv (l.set k y)).toArray t (0, 0)) := by
  rw [heap_setCell_same w g k _ t _ h]
  congr 2
  simp [wv, List.map_set]
theorem row_cell {w : World} {g t k : Nat} {l : List W32} (h : w.heap[g]? = some (.cells (wv l).toArray t (0, 0))) (hk : k < l.length) : w.cell? ⟨g, k, none⟩ = some (.int .u32 (iv (l.getD k 0))) := by
  rw [cell_of_row w _ _ _ _ _ h]
  simp [wv, List.getD, List.getElem?_eq_getElem hk]

set_option maxHeartbeats 200000 in
set_option maxRecDepth 4000 in
theorem spread_any (bl : List UInt8) (hb : bl.length = 64) (w : World) :
    Calls Tryd.prog 62 #[.agg (bv bl).toArray] w (WordsPost w (rowK bl 48)) := by
  go_enter Tryd.func62, Tryd.ntmps62
  go_upto_region 2 with (fail)
  rw [z64_lit]
  obtain ⟨w3, hw3⟩ : ∃ w3, w3 = ((w.alloc (.cells (bv bl).toArray 63)).alloc (.cells z64 112)).alloc (.cells z64 112) := ⟨_, rfl⟩
  rw [← hw3]
  have hB : w3.heap[w.heap.size]? = some (.cells (bv bl).toArray 63 (0, 0)) := by
    rw [hw3]
    exact (Below.heap_alloc _ _ _ (by simp; omega)).trans ((Below.heap_alloc _ _ _ (by simp)).trans (heap_alloc_new w _))
  have hR : w3.heap[w.heap.size + 1]? = some (.cells z64 112 (0, 0)) := by
    rw [hw3]
    refine (Below.heap_alloc _ _ _ (by simp)).trans ?_
    have := heap_alloc_new (w.alloc (.cells (bv bl).toArray 63)) (.cells z64 112)
    simpa using this
  have hW : w3.heap[w.heap.size + 1 + 1]? = some (.cells z64 112 (0, 0)) := by
    rw [hw3]
    have := heap_alloc_new ((w.alloc (.cells (bv bl).toArray 63)).alloc (.cells z64 112)) (.cells z64 112)
    simpa using this
  have hb3 : Below w.heap.size w w3 := by
    rw [hw3]
    exact (((Below.refl _ _).alloc (Nat.le_refl _) _).alloc (by simp) _).alloc (by simp; omega) _
  clear hw3
  have HI := Lib.hid (show (Tryd.prog.info? 63).map (·.size) = some ((bv bl).toArray.size) by
    rw [Tryd.size63]
    simp [bv, hb])
  have HB := Lib.hid hB
  have HR := Lib.hid hR
  have HW := Lib.hid hW
  have HL := Lib.hid hb
  clear hB hR hW hb
  go_wp2_with (refine wpList_load_row rfl 63 (.tmp 1) rfl w.heap.size rfl 63 (bv bl).toArray (0, 0) _ HB.out Tryd.underlying63 rfl HI.out ?_)
  go_loopw [12] (fun i wr => ∃ k : Nat, k ≤ 64 ∧ i = .int .i64 k ∧ Hid (wr.heap[w.heap.size + 1 + 1]? = some (.cells (wv (rowAt bl k)).toArray 112 (0, 0))) ∧
      Hid (wr.heap[w.heap.size + 1]? = some (.cells z64 112 (0, 0))) ∧ Below w.heap.size w wr) (fun i _ => 64 - (intOf i).toNat)
  case atStart =>
    refine ⟨0, by omega, rfl, ?_, HR, hb3⟩
    have e : z64 = (wv (rowAt bl 0)).toArray := by
      rw [z64_eq]
      congr 1
    rw [← e]
    exact HW
  case round =>
    obtain ⟨k, hk, rfl, hw, hr, hbw⟩ := hrel
    by_cases hlt : k < 64
    · have hkl : k < bl.length := by rw [HL.out]; exact hlt
      obtain ⟨c, hc⟩ : ∃ c : UInt8, c = bl[k] := ⟨_, rfl⟩
      have hx := fun W => run_index_row W 63 5 64 (bv bl).toArray k (.int .u8 (c.toNat : Int)) Tryd.underlying63 Tryd.size5 Tryd.plain5 hlt (by simp [bv, hc, hkl])
      obtain ⟨x, hxe⟩ : ∃ x, x = (rowAt bl k).getD (k / 4) 0 := ⟨_, rfl⟩
      have hcell : wr.cell? ⟨w.heap.size + 1 + 1, k / 4, none⟩ = some (.int .u32 (iv x)) := by
        rw [hxe]
        exact row_cell hw.out (by simp [rowAt]; omega)
      have hfr : wr.frozen? ⟨w.heap.size + 1 + 1, k / 4, none⟩ = false := frozen_of_row wr _ _ _ _ hw.out
      have HC := Lib.hid hc
      have HX := Lib.hid hxe
      clear hc hxe
      go_wp2_with fail
      rw [or_byte32]
      go_roundw
      case rel =>
        refine ⟨k + 1, by omega, by go_num, ?_, ?_, hbw.setCell (by simp; omega) _⟩
        · rw [rowAt_succ bl k hkl, ← HX.out, ← HC.out]
          exact Lib.hid (row_set hw.out)
        · exact Lib.hid ((Below.heap_setCell wr _ _ _ (by simp)).trans hr.out)
      case measure => simp [intOf] <;> omega
    · obtain rfl : k = 64 := by omega
      have hb2 : bl.length = 64 := HL.out
      rw [rowAt_end bl hb2] at hw
      clear hb2 hlt hk
      go_wp2_with fail
      clear HR HW hb3
      rw [show ((64 : Nat) : Int) = 64 from rfl]
      go_loopw [6] (fun i wr => ∃ k : Nat, 16 ≤ k ∧ k ≤ 64 ∧ i = .int .i64 k ∧ Hid (wr.heap[w.heap.size + 1 + 1]? = some (.cells (wv (rowK bl (k - 16) ++ List.replicate (64 - k) 0)).toArray 112 (0, 0))) ∧
        Hid (wr.heap[w.heap.size + 1]? = some (.cells z64 112 (0, 0))) ∧ Below w.heap.size w wr) (fun i _ => 64 - (intOf i).toNat)
      case atStart => exact ⟨16, by omega, by omega, rfl, hw, hr, hbw⟩
      case round =>
        clear hw hr hbw
        obtain ⟨k, hk16, hk, rfl, hw, hr, hbw⟩ := hrel
        by_cases hlt : k < 64
        · obtain ⟨L, hLe⟩ : ∃ L, L = rowK bl (k - 16) ++ List.replicate (64 - k) 0 := ⟨_, rfl⟩
          have hLl : L.length = 64 := by
            rw [hLe]
            simp [rowK_length]
            omega
          rw [← hLe] at hw
          obtain ⟨a, ha⟩ : ∃ a, a = L.getD (k - 15) 0 := ⟨_, rfl⟩
          obtain ⟨b, hb⟩ : ∃ b, b = L.getD (k - 2) 0 := ⟨_, rfl⟩
          obtain ⟨c, hc⟩ : ∃ c, c = L.getD (k - 16) 0 := ⟨_, rfl⟩
          obtain ⟨d, hd⟩ : ∃ d, d = L.getD (k - 7) 0 := ⟨_, rfl⟩
          have ca : wr.cell? ⟨w.heap.size + 1 + 1, k - 15, none⟩ = some (.int .u32 (iv a)) := by rw [ha]; exact row_cell hw.out (by omega)
          have cb : wr.cell? ⟨w.heap.size + 1 + 1, k - 2, none⟩ = some (.int .u32 (iv b)) := by rw [hb]; exact row_cell hw.out (by omega)
          have cc : wr.cell? ⟨w.heap.size + 1 + 1, k - 16, none⟩ = some (.int .u32 (iv c)) := by rw [hc]; exact row_cell hw.out (by omega)
          have cd : wr.cell? ⟨w.heap.size + 1 + 1, k - 7, none⟩ = some (.int .u32 (iv d)) := by rw [hd]; exact row_cell hw.out (by omega)
          have ck : wr.cell? ⟨w.heap.size + 1 + 1, k, none⟩ = some (.int .u32 (iv (L.getD k 0))) := row_cell hw.out (by omega)
          have fr : ∀ i, wr.frozen? ⟨w.heap.size + 1 + 1, i, none⟩ = false := fun i => frozen_of_row wr _ _ _ _ hw.out
          have HLE := Lib.hid hLe
          have HLL := Lib.hid hLl
          have HA := Lib.hid ha
          have HB2 := Lib.hid hb
          have HC := Lib.hid hc
          have HD := Lib.hid hd
          clear hLe hLl ha hb hc hd
          have t1 : ∀ (x : W32) W, Calls Tryd.prog 68 #[.int .u32 (iv x), .int .i64 7] W fun e w' => e = .returned (.int .u32 (iv (rotr x 7))) ∧ W = w' := fun x W => turn_any x 7 W (by omega) (by omega)
          have t2 : ∀ (x : W32) W, Calls Tryd.prog 68 #[.int .u32 (iv x), .int .i64 18] W fun e w' => e = .returned (.int .u32 (iv (rotr x 18))) ∧ W = w' := fun x W => turn_any x 18 W (by omega) (by omega)
          have t3 : ∀ (x : W32) W, Calls Tryd.prog 68 #[.int .u32 (iv x), .int .i64 17] W fun e w' => e = .returned (.int .u32 (iv (rotr x 17))) ∧ W = w' := fun x W => turn_any x 17 W (by omega) (by omega)
          have t4 : ∀ (x : W32) W, Calls Tryd.prog 68 #[.int .u32 (iv x), .int .i64 19] W fun e w' => e = .returned (.int .u32 (iv (rotr x 19))) ∧ W = w' := fun x W => turn_any x 19 W (by omega) (by omega)
          have T1 := Lib.hid t1
          have T2 := Lib.hid t2
          have T3 := Lib.hid t3
          have T4 := Lib.hid t4
          clear t1 t2 t3 t4
          go_wp2_with fail
          go_quiet (fail)
          clear ca cb
          go_wp2_with fail
          refine (T1.out _ _).mono ?_
          rintro _ _ ⟨rfl, rfl⟩
          go_wp2_with fail
          refine (T2.out _ _).mono ?_
          rintro _ _ ⟨rfl, rfl⟩
          go_wp2_with fail
          refine (T3.out _ _).mono ?_
          rintro _ _ ⟨rfl, rfl⟩
          go_wp2_with fail
          refine (T4.out _ _).mono ?_
          rintro _ _ ⟨rfl, rfl⟩
          go_wp2_with fail
          rw [sg0_of, sg1_of]
          go_region
          all_goals
            go_wp2_with fail
            rw [sum4]
            go_roundw
            case rel =>
              refine ⟨k + 1, by omega, by omega, by go_num, ?_, ?_, (below_drewN hbw (nq + 1)).setCell (by simp; omega) _⟩
              · rw [row_next bl k hk16 hlt, ← HLE.out, ← HA.out, ← HB2.out, ← HC.out, ← HD.out]
                exact Lib.hid (row_set (w := wr.drewN (nq + 1)) hw.out)
              · exact Lib.hid ((Below.heap_setCell (wr.drewN (nq + 1)) _ _ _ (by simp)).trans hr.out)
            case measure => simp [intOf] <;> omega
        · obtain rfl : k = 64 := by omega
          have hw2 : wr.heap[w.heap.size + 1 + 1]? = some (.cells (wv (rowK bl 48)).toArray 112 (0, 0)) := by simpa using hw.out
          have HI2 := Lib.hid (show (Tryd.prog.info? 112).map (·.size) = some ((wv (rowK bl 48)).toArray.size) by
            rw [Tryd.size112]
            simp [wv, rowK_length])
          have HS := Lib.hid (show z64.size = (wv (rowK bl 48)).toArray.size by simp [wv, rowK_length, z64])
          have HO := Lib.hid (show (wv (rowK bl 48)).toArray.all (·.oneCell') = true by
            simp [wv]
            intros
            rfl)
          have HW2 := Lib.hid hw2
          clear hw2 hw hlt hk16 hk
          go_wp2_with (first
            | refine wpList_load_row rfl 112 (.tmp 3) rfl (w.heap.size + 1 + 1) rfl 112 _ (0, 0) _ HW2.out Tryd.underlying112 rfl HI2.out ?_
            | refine wpList_store_row rfl 112 (.tmp 2) (.tmp 71) rfl (w.heap.size + 1) _ rfl rfl 112 _ hr.out HI2.out HS.out HO.out ?_)
          refine bodyPost_ret (v := .agg (wv (rowK bl 48)).toArray) ?_ rfl ⟨rfl, ?_⟩
          · exact results_cell_row Tryd.results62 _ _ (w.heap.size + 1) 112 _ (0, 0) _ rfl (setRow_heap wr _ _ _ _ _ hr.out) Tryd.underlying112 rfl HI2.out
          · exact below_setRow hbw (by omega) _
end Go.Proofs.YtaefgieodehceaaDoor.Sha
