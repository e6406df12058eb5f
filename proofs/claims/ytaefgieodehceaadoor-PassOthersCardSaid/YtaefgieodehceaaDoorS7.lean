/- SHA-256: contracts for the methods Sum and Write, and for New and Sum. -/
import Derived.Test.YtaefgieodehceaaDoorS6
namespace Go.Proofs.YtaefgieodehceaaDoor.Sha
set_option maxRecDepth 4000
open Go.RowKit

def z74 : Array Value := #[Value.int .u32 0, Value.int .u32 0, Value.int .u32 0, Value.int .u32 0, Value.int .u32 0, Value.int .u32 0, Value.int .u32 0, Value.int .u32 0, Value.int .u8 0, Value.int .u8 0, Value.int .u8 0, Value.int .u8 0, Value.int .u8 0, Value.int .u8 0, Value.int .u8 0, Value.int .u8 0, Value.int .u8 0, Value.int .u8 0, Value.int .u8 0, Value.int .u8 0, Value.int .u8 0, Value.int .u8 0, Value.int .u8 0, Value.int .u8 0, Value.int .u8 0, Value.int .u8 0, Value.int .u8 0, Value.int .u8 0, Value.int .u8 0, Value.int .u8 0, Value.int .u8 0, Value.int .u8 0, Value.int .u8 0, Value.int .u8 0, Value.int .u8 0, Value.int .u8 0, Value.int .u8 0, Value.int .u8 0, Value.int .u8 0, Value.int .u8 0, Value.int .u8 0, Value.int .u8 0, Value.int .u8 0, Value.int .u8 0, Value.int .u8 0, Value.int .u8 0, Value.int .u8 0, Value.int .u8 0, Value.int .u8 0, Value.int .u8 0, Value.int .u8 0, Value.int .u8 0, Value.int .u8 0, Value.int .u8 0, Value.int .u8 0, Value.int .u8 0, Value.int .u8 0, Value.int .u8 0, Value.int .u8 0, Value.int .u8 0, Value.int .u8 0, Value.int .u8 0, Value.int .u8 0, Value.int .u8 0, Value.int .u8 0, Value.int .u8 0, Value.int .u8 0, Value.int .u8 0, Value.int .u8 0, Value.int .u8 0, Value.int .u8 0, Value.int .u8 0, Value.int .i64 0, Value.int .u64 0]
theorem z74_lit : #[Value.int .u32 0, Value.int .u32 0, Value.int .u32 0, Value.int .u32 0, Value.int .u32 0, Value.int .u32 0, Value.int .u32 0, Value.int .u32 0, Value.int .u8 0, Value.int .u8 0, Value.int .u8 0, Value.int .u8 0, Value.int .u8 0, Value.int .u8 0, Value.int .u8 0, Value.int .u8 0, Value.int .u8 0, Value.int .u8 0, Value.int .u8 0, Value.int .u8 0, Value.int .u8 0, Value.int .u8 0, Value.int .u8 0, Value.int .u8 0, Value.int .u8 0, Value.int .u8 0, Value.int .u8 0, Value.int .u8 0, Value.int .u8 0, Value.int .u8 0, Value.int .u8 0, Value.int .u8 0, Value.int .u8 0, Value.int .u8 0, Value.int .u8 0, Value.int .u8 0, Value.int .u8 0, Value.int .u8 0, Value.int .u8 0, Value.int .u8 0, Value.int .u8 0, Value.int .u8 0, Value.int .u8 0, Value.int .u8 0, Value.int .u8 0, Value.int .u8 0, Value.int .u8 0, Value.int .u8 0, Value.int .u8 0, Value.int .u8 0, Value.int .u8 0, Value.int .u8 0, Value.int .u8 0, Value.int .u8 0, Value.int .u8 0, Value.int .u8 0, Value.int .u8 0, Value.int .u8 0, Value.int .u8 0, Value.int .u8 0, Value.int .u8 0, Value.int .u8 0, Value.int .u8 0, Value.int .u8 0, Value.int .u8 0, Value.int .u8 0, Value.int .u8 0, Value.int .u8 0, Value.int .u8 0, Value.int .u8 0, Value.int .u8 0, Value.int .u8 0, Value.int .i64 0, Value.int .u64 0] = z74 := rfl
def z32 : Array Value := #[Value.int .u8 0, Value.int .u8 0, Value.int .u8 0, Value.int .u8 0, Value.int .u8 0, Value.int .u8 0, Value.int .u8 0, Value.int .u8 0, Value.int .u8 0, Value.int .u8 0, Value.int .u8 0, Value.int .u8 0, Value.int .u8 0, Value.int .u8 0, Value.int .u8 0, Value.int .u8 0, Value.int .u8 0, Value.int .u8 0, Value.int .u8 0, Value.int .u8 0, Value.int .u8 0, Value.int .u8 0, Value.int .u8 0, Value.int .u8 0, Value.int .u8 0, Value.int .u8 0, Value.int .u8 0, Value.int .u8 0, Value.int .u8 0, Value.int .u8 0, Value.int .u8 0, Value.int .u8 0]
theorem z32_lit : #[Value.int .u8 0, Value.int .u8 0, Value.int .u8 0, Value.int .u8 0, Value.int .u8 0, Value.int .u8 0, Value.int .u8 0, Value.int .u8 0, Value.int .u8 0, Value.int .u8 0, Value.int .u8 0, Value.int .u8 0, Value.int .u8 0, Value.int .u8 0, Value.int .u8 0, Value.int .u8 0, Value.int .u8 0, Value.int .u8 0, Value.int .u8 0, Value.int .u8 0, Value.int .u8 0, Value.int .u8 0, Value.int .u8 0, Value.int .u8 0, Value.int .u8 0, Value.int .u8 0, Value.int .u8 0, Value.int .u8 0, Value.int .u8 0, Value.int .u8 0, Value.int .u8 0, Value.int .u8 0] = z32 := rfl
theorem Tryd.size96 : (Tryd.prog.info? 96).map (·.size) = some 74 := by kernel_rfl
theorem Tryd.zero96 : (Tryd.prog.info? 96).map (fun i => (i.zero, i.size)) = some (some (.agg z74), 74) := by kernel_rfl
theorem Tryd.size57 : (Tryd.prog.info? 57).map (·.size) = some 32 := by kernel_rfl
theorem bv_one (l : List UInt8) : (bv l).toArray.all (·.oneCell') = true := by
  simp [bv]
  intros
  rfl
theorem hcells_one (ws : List W32) (bl : List UInt8) (m n : Nat) : (hcells ws bl m n).toArray.all (·.oneCell') = true := by
  rw [Array.all_eq_true_iff_forall_mem]
  intro v hv
  simp only [hcells, wv, bv, List.mem_toArray, List.mem_append, List.mem_map, List.mem_cons, List.not_mem_nil, or_false] at hv
  rcases hv with ⟨_, _, rfl⟩ | ⟨_, _, rfl⟩ | rfl | rfl <;> rfl

def SumPost (w : World) (l : List UInt8) (e : Ending) (w' : World) : Prop := e = .returned (.agg (bv l).toArray) ∧ Below w.heap.size w w'

theorem z32_size : (Tryd.prog.info? 57).map (·.size) = some z32.size := Tryd.size57
theorem z32_bv : z32 = (bv (List.replicate 32 0)).toArray := rfl
theorem z32_one : z32.all (·.oneCell') = true := by rw [z32_bv]; exact bv_one _

set_option maxHeartbeats 1000000 in
set_option maxRecDepth 4000 in
theorem msum_nil (w : World) : Calls Tryd.prog 34 #[.pointer Option.none] w (SumPost w (List.replicate 32 0)) := by
  go_enter Tryd.func34, Tryd.ntmps34
  go_upto_region 2 with (fail)
  rw [z32_lit]
  have hb := (Below.refl w.heap.size w).alloc (Nat.le_refl _) (.cells z32 57)
  go_wp2_with (refine wpList_store_row rfl 57 (.tmp 2) (.tmp 8) rfl w.heap.size z32 rfl rfl 57 z32 (heap_alloc_new w _) z32_size rfl z32_one ?_)
  refine bodyPost_ret (v := .agg (bv (List.replicate 32 0)).toArray) ?_ rfl ⟨rfl, below_setRow hb (Nat.le_refl _) _⟩
  rw [← z32_bv]
  exact results_cell_row Tryd.results34 _ _ w.heap.size 57 _ (0, 0) _ rfl (setRow_heap _ _ _ _ _ _ (heap_alloc_new w _)) Tryd.underlying57 rfl z32_size

/-- The sum's bytes while they are laid: the first k of them are. -/
def outAt (h : List W32) (k : Nat) : List UInt8 := (outP h).take k ++ List.replicate (32 - k) 0
theorem outP_length (h : List W32) : (outP h).length = 32 := by simp [outP]
theorem outAt_length (h : List W32) (k : Nat) (hk : k ≤ 32) : (outAt h k).length = 32 := by
  simp [outAt, outP_length]
  omega
theorem outAt_next (h : List W32) (k : Nat) (hk : k < 32) : outAt h (k + 1) = (outAt h k).set k (UInt8.ofNat ((h.getD (k / 4) 0).toNat / 2 ^ (24 - 8 * (k % 4)))) := by
  have hl : ((outP h).take k).length = k := by simp [outP_length]; omega
  unfold outAt
  rw [List.set_append_right _ _ (by omega), hl, Nat.sub_self, List.take_succ_eq_append_getElem (by rw [outP_length]; exact hk), show 32 - k = (32 - (k + 1)) + 1 by omega, List.replicate_succ, List.set_cons_zero, List.append_assoc]
  simp [outP]
theorem out_byte (x : W32) (n : Nat) : iv x / 2 ^ n % 256 = ((UInt8.ofNat (x.toNat / 2 ^ n)).toNat : Int) := by
  unfold iv
  simp
theorem bytes_set {w : World} {g t k : Nat} {l : List UInt8} {y : UInt8} (h : w.heap[g]? = some (.cells (bv l).toArray t (0, 0))) : (w.setCell ⟨g, k, none⟩ (.int .u8 (y.toNat : Int))).heap[g]? = some (.cells (bv (l.set k y)).toArray t (0, 0)) := by
  rw [heap_setCell_same w g k _ t _ h]
  congr 2
  simp [bv, List.map_set]
theorem bytes_cell {w : World} {g t k : Nat} {l : List UInt8} (h : w.heap[g]? = some (.cells (bv l).toArray t (0, 0))) (hk : k < l.length) : w.cell? ⟨g, k, none⟩ = some (.int .u8 ((l.getD k 0).toNat : Int)) := by
  rw [cell_of_row w _ _ _ _ _ h]
  simp [bv, List.getD, List.getElem?_eq_getElem hk]

set_option maxHeartbeats 1000000 in
set_option maxRecDepth 4000 in
theorem msum_any (H : Nat) (l : List UInt8) (w : World) (hh : IsH w H l) (hk : Kt w) (hH : 1 < H) (hlen : l.length ≤ 900000) :
    Calls Tryd.prog 34 #[.pointer (some ⟨H, 0, none⟩)] w (SumPost w (sumP l)) := by
  obtain ⟨bl, hb64, hb2, hrow⟩ := hh
  obtain ⟨ws, hws⟩ : ∃ ws, ws = chain l (l.length / 64) := ⟨_, rfl⟩
  rw [← hws] at hrow
  have hw8 : ws.length = 8 := by rw [hws, chain_length]
  obtain ⟨C, hC⟩ : ∃ C, C = (hcells ws bl (l.length % 64) l.length).toArray := ⟨_, rfl⟩
  rw [← hC] at hrow
  have hC74 : C.size = 74 := by
    rw [hC, List.size_toArray, hcells_length _ _ _ _ hw8 hb64]
  have hsm : sumP l = outP (chain (padP l) ((padP l).length / 64)) := by
    unfold sumP
    rw [show (padP l).length / 64 = (l.length + 72) / 64 by rw [padP_length]; omega]
  obtain ⟨S, hS⟩ : ∃ S, S = sumP l := ⟨_, rfl⟩
  rw [← hS]
  have I59 := Lib.hid (show (Tryd.prog.info? 96).map (·.size) = some C.size by rw [Tryd.size96, hC74])
  have O59 := Lib.hid (show C.all (·.oneCell') = true by rw [hC]; exact hcells_one _ _ _ _)
  have S59 := Lib.hid (show z74.size = C.size by rw [hC74]; rfl)
  have hHw := lt_of_block' hrow
  have h1 := (Below.heap_alloc w (.cells z32 57) H hHw).trans hrow
  have HROW := Lib.hid h1
  have HCE := Lib.hid hC
  have HWS := Lib.hid hws
  have HB64 := Lib.hid hb64
  have HB2 := Lib.hid hb2
  have HSM := Lib.hid (hS.trans hsm)
  have HK := Lib.hid hk
  clear hrow hws hw8 hC hC74 hsm hS h1 hb64 hb2 hk
  go_enter Tryd.func34, Tryd.ntmps34
  go_upto_region 3 with (fail)
  rw [z32_lit]
  obtain ⟨w1, hw1⟩ : ∃ w1, w1 = w.alloc (.cells z32 57) := ⟨_, rfl⟩
  have hrow1 := HROW.out
  have hres := heap_alloc_new w (.cells z32 57)
  have hb1 := (Below.refl w.heap.size w).alloc (Nat.le_refl _) (.cells z32 57)
  rw [← hw1] at hrow1 hres hb1 ⊢
  have hz1 : w1.heap.size = w.heap.size + 1 := by rw [hw1]; simp
  have HROW1 := Lib.hid hrow1
  have HRES := Lib.hid hres
  have HZ1 := Lib.hid hz1
  clear HROW hrow1 hres hw1 hz1
  have hz59 := (zero_of_info Tryd.zero96).1
  go_upto_region 4 with (first
    | refine wpList_load_row rfl 96 (.tmp 10) rfl H rfl 96 C (0, 0) _ HROW1.out Tryd.underlying96 rfl I59.out ?_
    | (refine wpList_store_row rfl 96 (.tmp 3) (.tmp 11) rfl w1.heap.size C rfl rfl 96 _ (heap_alloc_new w1 _) I59.out S59.out O59.out ?_; rw [World.setRow_alloc_new]))
  obtain ⟨w2, hw2⟩ : ∃ w2, w2 = w1.alloc (.cells C 96) := ⟨_, rfl⟩
  rw [← hw2]
  have hi2 : IsH w2 w1.heap.size l := by
    refine ⟨bl, HB64.out, HB2.out, ?_⟩
    rw [hw2, heap_alloc_new, HCE.out, HWS.out]
  have hb2 : Below w.heap.size w w2 := by rw [hw2]; exact hb1.alloc hb1.size _
  have hres2 : w2.heap[w.heap.size]? = some (.cells z32 57 (0, 0)) := by
    rw [hw2]
    exact (Below.heap_alloc w1 _ _ (lt_of_block' HRES.out)).trans HRES.out
  have hcl := close_any w1.heap.size l w2 hi2 (HK.out.below hb2 (by omega)) (by rw [HZ1.out]; omega) hlen
  have HCL := Lib.hid hcl
  have HRES2 := Lib.hid hres2
  clear hcl hres2 hi2 hw2 hz59
  go_wp2_with fail
  refine HCL.out.mono ?_
  rintro e w3 ⟨rfl, hi3, hg3⟩
  have hz12 : w.heap.size < w1.heap.size := by rw [HZ1.out]; omega
  have hb3 : Below w.heap.size w w3 := hb2.trans ⟨hg3.os, hg3.tape, hg3.output, hg3.size, fun k hk => hg3.block k (Nat.lt_of_lt_of_le hk hb2.size) (fun e => by injection e with e; omega)⟩
  have hres3 := (hg3.block w.heap.size (lt_of_block' HRES2.out) (fun e => by injection e with e; omega)).trans HRES2.out
  obtain ⟨ws3, bl3, h38, h364, hrow3⟩ : ∃ ws bl, ws = chain (padP l) ((padP l).length / 64) ∧ bl.length = 64 ∧ w3.heap[w1.heap.size]? = some (.cells (hcells ws bl ((padP l).length % 64) (padP l).length).toArray 96 (0, 0)) := by
    obtain ⟨bl, hb, _, hr⟩ := hi3
    exact ⟨_, bl, rfl, hb, hr⟩
  have hS3 : S = outP ws3 := by rw [HSM.out, h38]
  have hl3 : ws3.length = 8 := by rw [h38, chain_length]
  have HRES3 := Lib.hid hres3
  have HROW3 := Lib.hid hrow3
  have HS3 := Lib.hid hS3
  have HL3 := Lib.hid hl3
  have H364 := Lib.hid h364
  clear hres3 hrow3 hS3 hl3 h364 h38 hi3 hg3 hb2 hb1
  go_upto_region 6 with (fail)
  rw [z32_lit]
  obtain ⟨w4, hw4⟩ : ∃ w4, w4 = w3.alloc (.cells z32 57) := ⟨_, rfl⟩
  rw [← hw4]
  have hb4 : Below w3.heap.size w3 w4 := by rw [hw4]; exact (Below.refl _ _).alloc (Nat.le_refl _) _
  have hrow4 := (hb4.block w1.heap.size (lt_of_block' HROW3.out)).trans HROW3.out
  have hres4 := (hb4.block w.heap.size (lt_of_block' HRES3.out)).trans HRES3.out
  have hout4 : w4.heap[w3.heap.size]? = some (.cells (bv (outAt ws3 0)).toArray 57 (0, 0)) := by
    rw [hw4, heap_alloc_new, z32_bv]
    simp [outAt]
  have hz3 := lt_of_block' HROW3.out
  have hb5 := hb3.trans (hb4.mono hb3.size)
  have HROW4 := Lib.hid hrow4
  have HRES4 := Lib.hid hres4
  have HOUT4 := Lib.hid hout4
  clear hw4 hb4 hrow4 hres4 hout4 hb3 HRES3 HRES2 HRES HROW1
  go_wp2_with fail
  go_loopw [13] (fun v wr => ∃ k : Nat, k ≤ 32 ∧ v = .int .i64 k ∧ Hid (wr.heap[w3.heap.size]? = some (.cells (bv (outAt ws3 k)).toArray 57 (0, 0))) ∧
      Hid (wr.heap[w1.heap.size]? = some (.cells (hcells ws3 bl3 ((padP l).length % 64) (padP l).length).toArray 96 (0, 0))) ∧ Hid (wr.heap[w.heap.size]? = some (.cells z32 57 (0, 0))) ∧ Below w.heap.size w wr) (fun v _ => 32 - (intOf v).toNat)
  case atStart => exact ⟨0, by omega, rfl, HOUT4, HROW4, HRES4, hb5⟩
  case round =>
    clear HOUT4 HROW4 HRES4 hb5
    obtain ⟨k, hk, rfl, ho, hr, hs, hb⟩ := hrel
    by_cases hlt : k < 32
    · obtain ⟨x, hx⟩ : ∃ x, x = ws3.getD (k / 4) 0 := ⟨_, rfl⟩
      have hcell : wr.cell? ⟨w1.heap.size, k / 4, none⟩ = some (.int .u32 (iv x)) := by
        rw [cell_of_row wr _ _ _ _ _ hr.out, List.getElem?_toArray]
        unfold hcells
        have hk4 : k / 4 < ws3.length := by rw [HL3.out]; omega
        rw [List.getElem?_append_left (by simp [wv]; exact hk4), hx]
        simp [wv, List.getD, List.getElem?_eq_getElem hk4]
      have hdst := bytes_cell ho.out (k := k) (by rw [outAt_length _ _ hk]; exact hlt)
      have hfr : wr.frozen? ⟨w3.heap.size, k, none⟩ = false := frozen_of_row wr _ _ _ _ ho.out
      have hsh : (0 : Int) ≤ 24 - 8 * ((k : Int) % 4) := by omega
      have HX := Lib.hid hx
      clear hx
      go_wp2_with fail
      rw [out_byte]
      go_roundw
      case rel =>
        refine ⟨k + 1, by omega, by go_num, ?_, Lib.hid ((Below.heap_setCell wr _ _ _ (by simp; omega)).trans hr.out), Lib.hid ((Below.heap_setCell wr _ _ _ (by simp; omega)).trans hs.out), hb.setCell (by simp; omega) _⟩
        rw [outAt_next _ _ hlt, ← HX.out]
        exact Lib.hid (bytes_set ho.out)
      case measure => simp [intOf] <;> omega
    · obtain rfl : k = 32 := by omega
      have ho2 := ho.out
      rw [show outAt ws3 32 = S by rw [HS3.out]; simp [outAt, List.take_of_length_le (Nat.le_of_eq (outP_length ws3))]] at ho2
      have hSl : S.length = 32 := by rw [HS3.out, outP_length]
      have I30 := Lib.hid (show (Tryd.prog.info? 57).map (·.size) = some ((bv S).toArray.size) by
        rw [Tryd.size57]
        simp [bv, hSl])
      have S30 := Lib.hid (show z32.size = (bv S).toArray.size by
        simp only [bv, List.size_toArray, List.length_map, hSl]
        rfl)
      have HO2 := Lib.hid ho2
      clear ho ho2 hSl hlt hk
      go_wp2_with (first
        | refine wpList_load_row rfl 57 (.tmp 4) rfl w3.heap.size rfl 57 _ (0, 0) _ HO2.out Tryd.underlying57 rfl I30.out ?_
        | refine wpList_store_row rfl 57 (.tmp 2) (.tmp 30) rfl w.heap.size _ rfl rfl 57 _ hs.out I30.out S30.out (bv_one _) ?_)
      refine bodyPost_ret (v := .agg (bv S).toArray) ?_ rfl ⟨rfl, below_setRow hb (Nat.le_refl _) _⟩
      exact results_cell_row Tryd.results34 _ _ w.heap.size 57 _ (0, 0) _ rfl (setRow_heap wr _ _ _ _ _ hs.out) Tryd.underlying57 rfl I30.out
end Go.Proofs.YtaefgieodehceaaDoor.Sha
