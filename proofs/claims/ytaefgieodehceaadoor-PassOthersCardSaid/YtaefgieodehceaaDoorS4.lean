/- SHA-256: a contract for Step. -/
import Derived.Test.YtaefgieodehceaaDoorS3
import Derived.StillTailTactics
import Derived.Deep.WholeRow
namespace Go.Proofs.YtaefgieodehceaaDoor.Sha
set_option maxRecDepth 4000
open Go.RowKit

/-- The table of the rounds' words, in block 0. -/
def Kt (w : World) : Prop := ∀ k, k < 64 → w.cell? ⟨1, k, none⟩ = some (.int .u32 (iv (kw.getD k 0)))
theorem Kt.below {w w' : World} {B : Nat} (h : Kt w) (hb : Below B w w') (hB : 1 < B) : Kt w' := fun k hk => (hb.cell (p := ⟨1, k, none⟩) (show 1 < B by omega)).trans (h k hk)

theorem lt_of_block' {w : World} {G : Nat} {o : Obj} (h : w.heap[G]? = some o) : G < w.heap.size := (Array.getElem?_eq_some_iff.1 h).1

def z8 : Array Value := #[Value.int .u32 0, Value.int .u32 0, Value.int .u32 0, Value.int .u32 0, Value.int .u32 0, Value.int .u32 0, Value.int .u32 0, Value.int .u32 0]
theorem z8_lit : #[Value.int .u32 0, Value.int .u32 0, Value.int .u32 0, Value.int .u32 0, Value.int .u32 0, Value.int .u32 0, Value.int .u32 0, Value.int .u32 0] = z8 := rfl

theorem wv_one (l : List W32) : (wv l).toArray.all (·.oneCell') = true := by
  simp [wv]
  intros
  rfl

/-- The words while they are added: the first k of them are. -/
def mix (h fin : List W32) (k : Nat) : List W32 := (List.zipWith wadd h fin).take k ++ fin.drop k
theorem mix_length (h fin : List W32) (k : Nat) (hh : h.length = 8) (hf : fin.length = 8) : (mix h fin k).length = 8 := by
  simp [mix, hh, hf]
  omega
theorem mix_get (h fin : List W32) (k : Nat) (hh : h.length = 8) (hf : fin.length = 8) (hk : k < 8) : (mix h fin k).getD k 0 = fin.getD k 0 := by
  have hl : ((List.zipWith wadd h fin).take k).length = k := by simp [hh, hf]; omega
  rw [mix, List.getD_eq_getElem?_getD, List.getElem?_append_right (by omega), hl, Nat.sub_self, List.getElem?_drop, List.getD_eq_getElem?_getD]
  rfl
theorem mix_next (h fin : List W32) (k : Nat) (hh : h.length = 8) (hf : fin.length = 8) (hk : k < 8) : mix h fin (k + 1) = (mix h fin k).set k (wadd (fin.getD k 0) (h.getD k 0)) := by
  have hl : ((List.zipWith wadd h fin).take k).length = k := by simp [hh, hf]; omega
  have hz : (List.zipWith wadd h fin).length = 8 := by simp [hh, hf]
  rw [mix, mix, List.set_append_right _ _ (by omega), hl, Nat.sub_self, List.take_succ_eq_append_getElem (by omega), List.drop_eq_getElem_cons (show k < fin.length by omega), List.set_cons_zero, List.append_assoc]
  congr 1
  simp [List.getD, List.getElem?_eq_getElem (show k < fin.length by omega), List.getElem?_eq_getElem (show k < h.length by omega), wadd, BitVec.add_comm]
theorem mix_end (h fin : List W32) (hh : h.length = 8) (hf : fin.length = 8) : mix h fin 8 = List.zipWith wadd h fin := by
  simp [mix, hh, hf, List.take_of_length_le]

set_option maxHeartbeats 200000 in
set_option maxRecDepth 4000 in
theorem step_any (h : List W32) (hl : h.length = 8) (bl : List UInt8) (hb : bl.length = 64) (w : World) (hk : Kt w) (h0 : 1 < w.heap.size) :
    Calls Tryd.prog 54 #[.agg (wv h).toArray, .agg (bv bl).toArray] w (WordsPost w (stepP h bl)) := by
  obtain ⟨row, hrow⟩ : ∃ row, row = rowK bl 48 := ⟨_, rfl⟩
  have hsp := fun W => spread_any bl hb W
  have hst : stepP h bl = List.zipWith wadd h (rnds row h 64) := by rw [hrow]; rfl
  rw [← hrow] at hsp
  have hrl : row.length = 64 := by rw [hrow, rowK_length]
  obtain ⟨fin, hfin⟩ : ∃ fin, fin = rnds row h 64 := ⟨_, rfl⟩
  rw [hst, ← hfin]
  have SP := Lib.hid hsp
  have HRL := Lib.hid hrl
  have HFIN := Lib.hid hfin
  clear hrow hsp hst hfin
  go_enter Tryd.func54, Tryd.ntmps54
  go_upto_region 1 with (fail)
  rw [z8_lit]
  obtain ⟨w3, hw3⟩ : ∃ w3, w3 = ((w.alloc (.cells (wv h).toArray 92)).alloc (.cells (bv bl).toArray 63)).alloc (.cells z8 92) := ⟨_, rfl⟩
  rw [← hw3]
  have hA : w3.heap[w.heap.size]? = some (.cells (wv h).toArray 92 (0, 0)) := by
    rw [hw3]
    exact (Below.heap_alloc _ _ _ (by simp; omega)).trans ((Below.heap_alloc _ _ _ (by simp)).trans (heap_alloc_new w _))
  have hB : w3.heap[w.heap.size + 1]? = some (.cells (bv bl).toArray 63 (0, 0)) := by
    rw [hw3]
    refine (Below.heap_alloc _ _ _ (by simp)).trans ?_
    have := heap_alloc_new (w.alloc (.cells (wv h).toArray 92)) (.cells (bv bl).toArray 63)
    simpa using this
  have hR : w3.heap[w.heap.size + 1 + 1]? = some (.cells z8 92 (0, 0)) := by
    rw [hw3]
    have := heap_alloc_new ((w.alloc (.cells (wv h).toArray 92)).alloc (.cells (bv bl).toArray 63)) (.cells z8 92)
    simpa using this
  have hb3 : Below w.heap.size w w3 := by
    rw [hw3]
    exact (((Below.refl _ _).alloc (Nat.le_refl _) _).alloc (by simp) _).alloc (by simp; omega) _
  clear hw3
  have I24 := Lib.hid (show (Tryd.prog.info? 63).map (·.size) = some ((bv bl).toArray.size) by
    rw [Tryd.size63]
    simp [bv, hb])
  have I23 := Lib.hid (show (Tryd.prog.info? 92).map (·.size) = some ((wv h).toArray.size) by
    rw [Tryd.size92]
    simp [wv, hl])
  have I52 := Lib.hid (show (Tryd.prog.info? 112).map (·.size) = some ((wv (row)).toArray.size) by
    rw [Tryd.size112]
    simp [wv, hrl])
  have S52 := Lib.hid (show z64.size = (wv (row)).toArray.size by simp [wv, hrl, z64])
  have S23 := Lib.hid (show z8.size = (wv h).toArray.size by simp [wv, hl, z8])
  have HA := Lib.hid hA
  have HB := Lib.hid hB
  have HR := Lib.hid hR
  have HL := Lib.hid hb
  have HH := Lib.hid hl
  have HK := Lib.hid hk
  clear hA hB hR hb hl hk hrl
  go_wp2_with (first
    | refine wpList_load_row rfl 63 (.tmp 3) rfl (w.heap.size + 1) rfl 63 (bv bl).toArray (0, 0) _ HB.out Tryd.underlying63 rfl I24.out ?_)
  refine (SP.out _).mono ?_
  intro e w4 hp
  obtain ⟨rfl, hb4⟩ := hp
  go_upto_region 2 with (refine wpList_store_row rfl 112 (.tmp 5) (.tmp 12) rfl w4.heap.size _ rfl rfl 112 _ (heap_alloc_new w4 _) I52.out S52.out (wv_one _) ?_; rw [World.setRow_alloc_new])
  obtain ⟨w5, hw5⟩ : ∃ w5, w5 = w4.alloc (.cells (wv (row)).toArray 112) := ⟨_, rfl⟩
  rw [← hw5]
  have hz3 : w.heap.size + 1 + 1 < w3.heap.size := lt_of_block' HR.out
  have hz4 := hb4.size
  have hb5 : Below w3.heap.size w3 w5 := by rw [hw5]; exact hb4.alloc hb4.size _
  have hROW : w5.heap[w4.heap.size]? = some (.cells (wv (row)).toArray 112 (0, 0)) := by rw [hw5]; exact heap_alloc_new w4 _
  have hA := (hb5.block w.heap.size (by omega)).trans HA.out
  have hR := (hb5.block (w.heap.size + 1 + 1) hz3).trans HR.out
  have hz5 : w4.heap.size < w5.heap.size := by rw [hw5]; simp
  have HA5 := Lib.hid hA
  have HROW := Lib.hid hROW
  clear hw5 hA hROW
  go_upto_region 3 with (first
    | refine wpList_load_row rfl 92 (.tmp 2) rfl w.heap.size rfl 92 (wv h).toArray (0, 0) _ HA5.out Tryd.underlying92 rfl I23.out ?_
    | (refine wpList_store_row rfl 92 (.tmp 6) (.tmp 13) rfl w5.heap.size _ rfl rfl 92 _ (heap_alloc_new w5 _) I23.out S23.out (wv_one _) ?_; rw [World.setRow_alloc_new]))
  obtain ⟨w6, hw6⟩ : ∃ w6, w6 = w5.alloc (.cells (wv h).toArray 92) := ⟨_, rfl⟩
  rw [← hw6]
  have hb6 : Below w5.heap.size w5 w6 := by rw [hw6]; exact (Below.refl _ _).alloc (Nat.le_refl _) _
  have hWAS : w6.heap[w5.heap.size]? = some (.cells (wv h).toArray 92 (0, 0)) := by rw [hw6]; exact heap_alloc_new w5 _
  have hA6 := (hb6.block w.heap.size (by omega)).trans HA5.out
  have hR6 := (hb6.block (w.heap.size + 1 + 1) (by omega)).trans hR
  have hROW6 := (hb6.block w4.heap.size (by omega)).trans HROW.out
  have hB6 := (hb3.trans (hb5.mono hb3.size)).trans (hb6.mono (by omega))
  have hK6 := HK.out.below hB6 h0
  have HA6 := Lib.hid hA6
  have HR6 := Lib.hid hR6
  have HROW6 := Lib.hid hROW6
  have HWAS := Lib.hid hWAS
  have HK6 := Lib.hid hK6
  clear hw6 hA6 hR6 hROW6 hWAS hK6 hR
  go_wp2_with (refine wpList_load_row rfl 112 (.tmp 5) rfl w4.heap.size rfl 112 _ (0, 0) _ HROW6.out Tryd.underlying112 rfl I52.out ?_)
  have hz6 := hb6.size
  go_loopw [15] (fun i wr => ∃ k : Nat, k ≤ 64 ∧ i = .int .i64 k ∧ Hid (wr.heap[w.heap.size]? = some (.cells (wv (rnds (row) h k)).toArray 92 (0, 0))) ∧
      Hid (wr.heap[w5.heap.size]? = some (.cells (wv h).toArray 92 (0, 0))) ∧ Hid (wr.heap[w.heap.size + 1 + 1]? = some (.cells z8 92 (0, 0))) ∧ Hid (Kt wr) ∧ Below w.heap.size w wr ∧ w5.heap.size < wr.heap.size) (fun i _ => 64 - (intOf i).toNat)
  case atStart => exact ⟨0, by omega, rfl, HA6, HWAS, HR6, HK6, hB6, lt_of_block' HWAS.out⟩
  case round =>
    clear HA6 HWAS HR6 HK6 hB6 HROW6 HROW HA5 hb6 hb5 hb4 hb3
    obtain ⟨k, hk, rfl, hA, hW, hR, hK, hbw, hzr⟩ := hrel
    by_cases hlt : k < 64
    · obtain ⟨a, ha⟩ : ∃ a, a = kw.getD k 0 := ⟨_, rfl⟩
      obtain ⟨b, hb⟩ : ∃ b, b = (row).getD k 0 := ⟨_, rfl⟩
      have hx := fun W => run_index_row W 112 23 64 (wv (row)).toArray k (.int .u32 (iv b)) Tryd.underlying112 Tryd.size23 Tryd.plain23 hlt (by
        rw [hb]
        have hl : k < (row).length := by rw [HRL.out]; omega
        simp [wv, List.getD, List.getElem?_eq_getElem hl])
      have hcell := hK.out k hlt
      rw [← ha] at hcell
      have HL8 := Lib.hid (rnds_length (row) h k HH.out)
      have HAe := Lib.hid ha
      have HBe := Lib.hid hb
      clear ha hb
      have HCELL := Lib.hid hcell
      clear hcell
      go_wp2_with fail
      refine wp_region_still_tail 6 (by kernel_rfl) (by kernel_rfl) ?_
      obtain ⟨w7, hw7⟩ : ∃ w7, w7 = wr.drew := ⟨_, rfl⟩
      change wpStill _ _ wr.drew (fun a' => wpList _ _ _ _ _ wr.drew) _ _
      rw [← hw7]
      have hh7 : w7.heap = wr.heap := by rw [hw7]; rfl
      have hA7 := hA.out
      rw [← hh7] at hA7
      obtain ⟨x0, x1, x2, x3, x4, x5, x6, x7, hx8⟩ := list8 HL8.out
      rw [hx8] at hA7
      have q0 : w7.cell? ⟨w.heap.size, 0, none⟩ = some (.int .u32 (iv x0)) := row_cell hA7 (by simp)
      have q1 : w7.cell? ⟨w.heap.size, 1, none⟩ = some (.int .u32 (iv x1)) := row_cell hA7 (by simp)
      have q2 : w7.cell? ⟨w.heap.size, 2, none⟩ = some (.int .u32 (iv x2)) := row_cell hA7 (by simp)
      have q3 : w7.cell? ⟨w.heap.size, 3, none⟩ = some (.int .u32 (iv x3)) := row_cell hA7 (by simp)
      have q4 : w7.cell? ⟨w.heap.size, 4, none⟩ = some (.int .u32 (iv x4)) := row_cell hA7 (by simp)
      have q5 : w7.cell? ⟨w.heap.size, 5, none⟩ = some (.int .u32 (iv x5)) := row_cell hA7 (by simp)
      have q6 : w7.cell? ⟨w.heap.size, 6, none⟩ = some (.int .u32 (iv x6)) := row_cell hA7 (by simp)
      have q7 : w7.cell? ⟨w.heap.size, 7, none⟩ = some (.int .u32 (iv x7)) := row_cell hA7 (by simp)
      have HX8 := Lib.hid hx8
      have hcell : w7.cell? ⟨1, k, none⟩ = some (.int .u32 (iv a)) := by rw [hw7]; exact HCELL.out
      have HA7 := Lib.hid hA7
      have HW7 := Lib.hid hw7
      have HH7 := Lib.hid hh7
      clear hw7 hh7 hA7 hx8
      simp only [List.take_succ_cons, List.take_zero, List.drop_succ_cons, List.drop_zero]
      repeat still_step
      refine wpStill_nil ?_
      rw [iv_add]
      clear q0 q1 q2 q3 q4 q5 q6 q7 hcell
      go_wp2_with fail
      refine (round_any _ _ _ _ _ _ _ _ _ _).mono ?_
      intro e w8 hp
      obtain ⟨rfl, hb8⟩ := hp
      have hA7 := hA.out
      rw [← HH7.out] at hA7
      have hz8 := hb8.size
      have hb7 : Below w.heap.size w w7 := by rw [HW7.out]; exact hbw.drew
      have hzw : w.heap.size ≤ w7.heap.size := hb7.size
      have hA8 := (hb8.block w.heap.size (lt_of_block' hA7)).trans hA7
      have hW7 := hW.out
      have hR7 := hR.out
      rw [← HH7.out] at hW7 hR7
      have hW8 := (hb8.block w5.heap.size (lt_of_block' hW7)).trans hW7
      have hR8 := (hb8.block (w.heap.size + 1 + 1) (lt_of_block' hR7)).trans hR7
      have hb9 := hb7.trans (hb8.mono hzw)
      have HA8 := Lib.hid hA8
      have HW8 := Lib.hid hW8
      have HR8 := Lib.hid hR8
      have hnext : rnd [x0, x1, x2, x3, x4, x5, x6, x7] (wadd a b) = rnds row h (k + 1) := by
        rw [← HX8.out, HAe.out, HBe.out]
        rfl
      rw [hnext]
      have hl9 := rnds_length row h (k + 1) HH.out
      have I9 := Lib.hid (show (Tryd.prog.info? 92).map (·.size) = some ((wv (rnds row h (k + 1))).toArray.size) by
        rw [Tryd.size92]
        simp [wv, hl9])
      have S9 := Lib.hid (show (wv (rnds row h k)).toArray.size = (wv (rnds row h (k + 1))).toArray.size by simp [wv, hl9, HL8.out])
      clear hA7 hA8 hW8 hR8 hW7 hR7 hnext hl9
      go_wp2_with (refine wpList_store_row rfl 92 (.tmp 2) (.tmp 25) rfl w.heap.size _ rfl rfl 92 _ HA8.out I9.out S9.out (wv_one _) ?_)
      go_roundw
      case rel =>
        refine ⟨k + 1, by omega, by go_num, Lib.hid (setRow_heap w8 _ _ _ _ _ HA8.out), Lib.hid ((setRow_other w8 _ _ _ (by omega)).trans HW8.out), Lib.hid ((setRow_other w8 _ _ _ (by omega)).trans HR8.out), Lib.hid (HK.out.below (below_setRow hb9 (Nat.le_refl _) _) h0), below_setRow hb9 (Nat.le_refl _) _, ?_⟩
        have := lt_of_block' HW8.out
        simpa using this
      case measure => simp [intOf] <;> omega
    · obtain rfl : k = 64 := by omega
      have hA2 := hA.out
      rw [← HFIN.out] at hA2
      have HA2 := Lib.hid hA2
      clear hA hA2 hlt hk
      go_wp2_with (refine wpList_load_row rfl 92 (.tmp 6) rfl w5.heap.size rfl 92 _ (0, 0) _ hW.out Tryd.underlying92 rfl I23.out ?_)
      have HFL := Lib.hid (show fin.length = 8 by rw [HFIN.out, rnds_length _ _ _ HH.out])
      go_loopw [28] (fun i wr => ∃ k : Nat, k ≤ 8 ∧ i = .int .i64 k ∧ Hid (wr.heap[w.heap.size]? = some (.cells (wv (mix h fin k)).toArray 92 (0, 0))) ∧
        Hid (wr.heap[w.heap.size + 1 + 1]? = some (.cells z8 92 (0, 0))) ∧ Below w.heap.size w wr) (fun i _ => 8 - (intOf i).toNat)
      case atStart => exact ⟨0, by omega, rfl, by simpa [mix] using HA2, hR, hbw⟩
      case round =>
        clear HA2 hW hR hK hbw hzr
        obtain ⟨k, hk, rfl, hA, hR, hbw⟩ := hrel
        by_cases hlt : k < 8
        · obtain ⟨a, ha⟩ : ∃ a, a = h.getD k 0 := ⟨_, rfl⟩
          obtain ⟨b, hb⟩ : ∃ b, b = fin.getD k 0 := ⟨_, rfl⟩
          have hx := fun W => run_index_row W 92 23 8 (wv h).toArray k (.int .u32 (iv a)) Tryd.underlying92 Tryd.size23 Tryd.plain23 hlt (by
            rw [ha]
            have hl : k < h.length := by rw [HH.out]; omega
            simp [wv, List.getD, List.getElem?_eq_getElem hl])
          have hcell : wr.cell? ⟨w.heap.size, k, none⟩ = some (.int .u32 (iv b)) := by
            have h1 := row_cell hA.out (k := k) (by rw [mix_length _ _ _ HH.out HFL.out]; exact hlt)
            rw [mix_get _ _ _ HH.out HFL.out hlt] at h1
            rw [hb]
            exact h1
          have hfr : wr.frozen? ⟨w.heap.size, k, none⟩ = false := frozen_of_row wr _ _ _ _ hA.out
          have HAe := Lib.hid ha
          have HBe := Lib.hid hb
          clear ha hb
          go_wp2_with fail
          rw [iv_addm]
          go_roundw
          case rel =>
            refine ⟨k + 1, by omega, by go_num, ?_, Lib.hid ((Below.heap_setCell wr _ _ _ (by simp; omega)).trans hR.out), hbw.setCell (Nat.le_refl _) _⟩
            rw [mix_next _ _ _ HH.out HFL.out hlt, ← HAe.out, ← HBe.out]
            exact Lib.hid (row_set hA.out)
          case measure => simp [intOf] <;> omega
        · obtain rfl : k = 8 := by omega
          have hA2 := hA.out
          rw [mix_end _ _ HH.out HFL.out] at hA2
          have HA2 := Lib.hid hA2
          have hzl : (List.zipWith wadd h fin).length = 8 := by simp [HH.out, HFL.out]
          have IZ := Lib.hid (show (Tryd.prog.info? 92).map (·.size) = some ((wv (List.zipWith wadd h fin)).toArray.size) by
            rw [Tryd.size92]
            simp only [wv, List.size_toArray, List.length_map, hzl])
          have SZ := Lib.hid (show z8.size = (wv (List.zipWith wadd h fin)).toArray.size by
            simp only [wv, List.size_toArray, List.length_map, hzl]
            rfl)
          clear hA hA2 hlt hk hzl
          go_wp2_with (first
            | refine wpList_load_row rfl 92 (.tmp 2) rfl w.heap.size rfl 92 _ (0, 0) _ HA2.out Tryd.underlying92 rfl IZ.out ?_
            | refine wpList_store_row rfl 92 (.tmp 4) (.tmp 39) rfl (w.heap.size + 1 + 1) _ rfl rfl 92 _ hR.out IZ.out SZ.out (wv_one _) ?_)
          refine bodyPost_ret (v := .agg (wv (List.zipWith wadd h fin)).toArray) ?_ rfl ⟨rfl, ?_⟩
          · exact results_cell_row Tryd.results54 _ _ (w.heap.size + 1 + 1) 92 _ (0, 0) _ rfl (setRow_heap wr _ _ _ _ _ hR.out) Tryd.underlying92 rfl IZ.out
          · exact below_setRow hbw (by omega) _
end Go.Proofs.YtaefgieodehceaaDoor.Sha
