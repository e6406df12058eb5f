/- A long key is as good as its sum, a short one as one with noughts behind: MacKeys returns true for every input. -/
import Derived.Test.YtbnmblhpoaaegaaDoorM6
import Derived.Deep.DeepCutAuto
namespace Go.Proofs.YtbnmblhpoaaegaaDoor
open Go.RowKit

/-- The key's bytes, or its sum's. -/
def coreP (key : List UInt8) : List UInt8 := if 64 < key.length then sumP key else key
theorem coreP_le (key : List UInt8) : (coreP key).length ≤ 64 := by
  unfold coreP
  split
  · rw [sumP_length]; omega
  · omega
theorem blockP_core (key : List UInt8) : blockP key = coreP key ++ List.replicate (64 - (coreP key).length) 0 := by
  unfold blockP coreP cpy
  split
  · rw [sumP_length, List.take_of_length_le (by rw [sumP_length]; omega)]
  · rw [List.take_of_length_le (by omega)]
theorem blockP_idem (key : List UInt8) : blockP (blockP key) = blockP key := by
  have h := blockP_length key
  rw [blockP_core (blockP key)]
  have : coreP (blockP key) = blockP key := by
    unfold coreP
    rw [if_neg (by rw [h]; omega)]
  rw [this, h]
  simp
theorem tagP_block (key l : List UInt8) : tagP (blockP key) l = tagP key l := by
  unfold tagP
  rw [blockP_idem]

set_option maxHeartbeats 2000000 in
set_option maxRecDepth 4000 in
theorem mkeys_walk (v u : Value) (key b : List UInt8) (w : World) (hv : Pb w v key) (hp : Pb w u b) (hk : Kt w) (hf : Ft w) (h1 : 1 < w.heap.size) (hkl : key.length ≤ 9223372036854775807) (hbl : b.length ≤ 9223372036854775807) :
    Calls Tryd.prog 11 #[v, u] w fun e w' => e = .returned (.bool true) ∧ Below w.heap.size w w' := by
  obtain ⟨A, c, rfl, _, _⟩ := id hv
  obtain ⟨A2, c2, rfl, _, _⟩ := id hp
  obtain ⟨n, hn⟩ : ∃ n, n = key.length := ⟨_, rfl⟩
  obtain ⟨m, hm⟩ : ∃ m, m = b.length := ⟨_, rfl⟩
  rw [← hn] at hv hkl ⊢
  rw [← hm] at hp hbl ⊢
  have HN := Lib.hid hn
  have HM := Lib.hid hm
  have HV := Lib.hid hv
  have HP := Lib.hid hp
  have HK := Lib.hid hk
  have HF := Lib.hid hf
  have H1 := Lib.hid h1
  clear hv hp hk hf hn hm h1
  go_enter Tryd.func11, Tryd.ntmps11
  by_cases hbig : 200 < n
  · have t : decide ((n : Int) > 200) = true := by rw [decide_eq_true_iff]; omega
    go_wp2_with fail
    go_ret
    exact ⟨rfl, Below.refl _ _⟩
  have t : decide ((n : Int) > 200) = false := by rw [decide_eq_false_iff_not]; omega
  by_cases hbig2 : 300 < m
  · have t2 : decide ((m : Int) > 300) = true := by rw [decide_eq_true_iff]; omega
    go_wp2_with fail
    go_ret
    exact ⟨rfl, Below.refl _ _⟩
  have t2 : decide ((m : Int) > 300) = false := by rw [decide_eq_false_iff_not]; omega
  obtain ⟨B, hB⟩ : ∃ B, B = w.heap.size := ⟨_, rfl⟩
  have ho0 : (w.alloc (.cells #[] 5)).ownsRow B 5 1 (.slice (some ⟨w.heap.size, 0, none⟩) 0 0) ([] : List UInt8).length (bv []) := World.ownsRow_lit w #[] 0 (by omega) (by unfold maxLen; omega) rfl
  have hba : Below w.heap.size w (w.alloc (.cells #[] 5)) := (Below.refl _ _).alloc (Nat.le_refl _) _
  have HBB := Lib.hid hB
  have HO0 := Lib.hid ho0
  have HBA := Lib.hid hba
  have HPA := Lib.hid (HV.out.below hba)
  have HNK := Lib.hid (show key.length ≤ 200 by rw [← HN.out]; omega)
  have HMB := Lib.hid (show b.length ≤ 300 by rw [← HM.out]; omega)
  clear hB ho0 hba hbig hbig2
  go_upto_if 20 with (at_builtin; refine wpList_append_bytes rfl (.tmp 15) (.tmp 16) rfl B _ (.slice A n c) [] key rfl rfl HO0.out HPA.out (by have := HNK.out; simp; omega) (by rw [HBB.out]; simp) ?_; intro v5 w2 hown2 hg2; have HW2 : Hid (w2.ownsRow B 5 1 v5 key.length (bv key) ∧ Below w.heap.size w w2) := ⟨hown2, HBA.out.grown hg2 HBA.out.size (fun k hk => by rw [← HBB.out]; exact (HO0.out.lt k hk).1)⟩; clear hown2 hg2; obtain ⟨A5, c5, rfl, _, _⟩ := id (own_pb HW2.out.1))
  clear HO0 HBA HPA
  go_cut [5] (fun x wx => ∃ (A6 : Option Addr) (n6 c6 : Nat), x = .slice A6 n6 c6 ∧ Hid (n6 = (coreP key).length ∧ wx.ownsRow B 5 1 (.slice A6 n6 c6) n6 (bv (coreP key)) ∧ Below w.heap.size w wx))
  case first =>
    by_cases h64 : 64 < n
    · have t3 : decide ((n : Int) > 64) = true := by rw [decide_eq_true_iff]; omega
      obtain ⟨S, hS⟩ : ∃ S, S = sumP key := ⟨_, rfl⟩
      have hSl : S.length = 32 := by rw [hS, sumP_length]
      have hbw := HW2.out.2
      have hba : Below w.heap.size w (w2.alloc (.cells #[.slice A n c] 27)) := hbw.alloc hbw.size _
      have hm := sum_any _ [key] _ (pbs_one (HV.out.below hbw) 27) (HK.out.below hba (by have := H1.out; omega)) (HF.out.below hba H1.out) (Nat.lt_of_lt_of_le H1.out hba.size) (by rw [flat_one]; have := HNK.out; omega) (by simp)
      rw [flat_one, ← hS] at hm
      have I30 := Lib.hid (show (Tryd.prog.info? 30).map (·.size) = some ((bv S).toArray.size) by
        rw [Tryd.size30]
        simp [bv, hSl])
      have S30 := Lib.hid (show z32.size = (bv S).toArray.size by
        simp only [bv, List.size_toArray, List.length_map, hSl]
        rfl)
      have HMM := Lib.hid hm
      have HBA := Lib.hid hba
      have HS := Lib.hid hS
      have HSL := Lib.hid hSl
      clear hm hba hS hSl hbw
      go_wp2_with fail
      refine HMM.out.mono ?_
      rintro e w3 ⟨rfl, hb3⟩
      have HB3 := Lib.hid (HBA.out.trans (hb3.mono HBA.out.size))
      clear hb3 HMM HBA
      go_upto_region 6 with (refine wpList_store_row rfl 30 (.tmp 6) (.tmp 23) rfl w3.heap.size (bv S).toArray rfl rfl 30 z32 (heap_alloc_new w3 _) I30.out S30.out (bv_one _) ?_; rw [World.setRow_alloc_new])
      obtain ⟨w4, hw4⟩ : ∃ w4, w4 = w3.alloc (.cells (bv S).toArray 30) := ⟨_, rfl⟩
      rw [← hw4]
      have hs4 : w4.heap[w3.heap.size]? = some (.cells (bv S).toArray 30 (0, 0)) := by rw [hw4]; exact heap_alloc_new w3 _
      have hb4 : Below w.heap.size w w4 := by rw [hw4]; exact HB3.out.alloc HB3.out.size _
      have hp4 : Pb w4 (.slice (some ⟨w3.heap.size, 0, none⟩) 32 32) S := by
        refine ⟨_, 32, by rw [HSL.out], by rw [HSL.out]; omega, fun _ => ⟨w3.heap.size, 0, rfl, lt_of_block' hs4, fun j u hu => ?_⟩⟩
        rw [cell_of_row _ _ (0 + j) _ _ _ hs4, Nat.zero_add, List.getElem?_toArray, hu]
      have ho4 : (w4.alloc (.cells #[] 5)).ownsRow B 5 1 (.slice (some ⟨w4.heap.size, 0, none⟩) 0 0) ([] : List UInt8).length (bv []) := World.ownsRow_lit w4 #[] 0 (by rw [HBB.out]; exact hb4.size) (by unfold maxLen; omega) rfl
      have hba : Below w.heap.size w (w4.alloc (.cells #[] 5)) := hb4.alloc hb4.size _
      have HO4 := Lib.hid ho4
      have HBA := Lib.hid hba
      have HP4 := Lib.hid (hp4.below ((Below.refl _ _).alloc (Nat.le_refl _) (.cells #[] 5)))
      clear hs4 hb4 hp4 hw4 HB3 ho4 hba
      go_wp2_with (at_builtin; refine wpList_append_bytes rfl (.tmp 24) (.tmp 25) rfl B _ (.slice (some ⟨w3.heap.size, 0, none⟩) 32 32) [] S rfl rfl HO4.out HP4.out (by have := HSL.out; simp; omega) (by rw [HBB.out]; exact HBA.out.size) ?_; intro v6 w6 hown6 hg6; have HW6 : Hid (w6.ownsRow B 5 1 v6 S.length (bv S) ∧ Below w.heap.size w w6) := ⟨hown6, HBA.out.grown hg6 HBA.out.size (fun k hk => by rw [← HBB.out]; exact (HO4.out.lt k hk).1)⟩; clear hown6 hg6; obtain ⟨A6, c6, rfl, _, _⟩ := id (own_pb HW6.out.1))
      go_meet
      have hco : coreP key = S := by unfold coreP; rw [if_pos (by rw [← HN.out]; exact h64), HS.out]
      exact ⟨A6, S.length, c6, rfl, Lib.hid ⟨by rw [hco], by rw [hco]; exact HW6.out.1, HW6.out.2⟩⟩
    · have t3 : decide ((n : Int) > 64) = false := by rw [decide_eq_false_iff_not]; omega
      go_wp2_with fail
      go_meet
      have hco : coreP key = key := by unfold coreP; rw [if_neg (by rw [← HN.out]; exact h64)]
      exact ⟨A5, _, c5, rfl, Lib.hid ⟨by rw [hco], by rw [hco]; exact HW2.out.1, HW2.out.2⟩⟩
  case rest =>
    obtain ⟨A6, n6, c6, rfl, hc⟩ := hcut
    clear HW2
    obtain ⟨C, hC⟩ : ∃ C, C = coreP key := ⟨_, rfl⟩
    have hC64 : C.length ≤ 64 := by rw [hC]; exact coreP_le key
    have hblk : blockP key = C ++ List.replicate (64 - C.length) 0 := by rw [hC]; exact blockP_core key
    rw [← hC] at hc
    have HBK := Lib.hid hblk
    have HCL := Lib.hid hC64
    clear hC hC64 hblk
    go_wp2_with fail
    go_loopw [5] (fun x wr => ∃ (q A7 n7 c7 : _), x = .slice A7 n7 c7 ∧ Hid (n7 = C.length + q) ∧ n7 ≤ 64 ∧ Hid (wr.ownsRow B 5 1 (.slice A7 n7 c7) n7 (bv (C ++ List.replicate q 0)) ∧ Below w.heap.size w wr)) (fun x _ => 64 - lenOf x)
    case atStart => exact ⟨0, A6, n6, c6, rfl, Lib.hid hc.out.1, by have := HCL.out; have := hc.out.1; omega, by simpa using Lib.hid hc.out.2⟩
    case round =>
      clear hc
      obtain ⟨q, A7, n7, c7, rfl, hn7, hle, ho⟩ := hrel
      have hsz : B ≤ wr.heap.size := by rw [HBB.out]; exact ho.out.2.size
      by_cases hlt : n7 < 64
      · have hl7 : (C ++ List.replicate q 0).length = n7 := by rw [List.length_append, List.length_replicate, hn7.out]
        have HL7 := Lib.hid hl7
        have ho7 : wr.ownsRow B 5 1 (.slice A7 n7 c7) (C ++ List.replicate q 0).length (bv (C ++ List.replicate q 0)) := by rw [hl7]; exact ho.out.1
        have HO7 := Lib.hid (ho7.alloc (.cells #[.int .u8 0] 5))
        have HB7 := Lib.hid (ho.out.2.alloc ho.out.2.size (.cells #[.int .u8 0] 5))
        clear hl7 ho7
        go_wp2_with (at_builtin; refine wpList_append_bytes rfl (.tmp 30) (.tmp 31) rfl B _ (.slice (some ⟨wr.heap.size, 0, none⟩) 1 1) (C ++ List.replicate q 0) [0] rfl rfl HO7.out (pb_byte rfl) (by rw [HL7.out]; simp; omega) (by rw [HBB.out]; exact HB7.out.size) ?_; intro v8 w8 hown8 hg8; have HW8 : Hid (w8.ownsRow B 5 1 v8 ((C ++ List.replicate q 0) ++ [0]).length (bv ((C ++ List.replicate q 0) ++ [0])) ∧ Below w.heap.size w w8) := ⟨hown8, HB7.out.grown hg8 HB7.out.size (fun k hk => by rw [← HBB.out]; exact (HO7.out.lt k hk).1)⟩; clear hown8 hg8; obtain ⟨A8, n8, c8, rfl⟩ := own_form HW8.out.1)
        have h8 : n8 = n7 + 1 := by
          obtain ⟨A9, c9, e, _⟩ := own_pb HW8.out.1
          injection e with _ e
          rw [e, List.length_append, HL7.out]
          rfl
        subst h8
        go_roundw
        case rel =>
          have h := HW8.out
          rw [List.length_append, HL7.out, List.append_assoc, show List.replicate q 0 ++ [0] = List.replicate (q + 1) (0 : UInt8) by rw [List.replicate_succ']] at h
          exact ⟨q + 1, A8, n7 + 1, c8, rfl, Lib.hid (by rw [hn7.out]; omega), by omega, Lib.hid h⟩
        case measure => simp [lenOf] <;> omega
      · obtain rfl : n7 = 64 := by omega
        have hq : q = 64 - C.length := by have := hn7.out; omega
        have ho7 := ho.out
        rw [hq, ← HBK.out] at ho7
        have ho1 := ho7.1
        rw [← blockP_length key] at ho1
        obtain ⟨T, hT⟩ : ∃ T, T = tagP key b := ⟨_, rfl⟩
        have hba : Below w.heap.size w (wr.alloc (.cells #[.slice A2 m c2] 27)) := ho7.2.alloc ho7.2.size _
        have hpb := own_pb ho1
        rw [blockP_length key] at hpb
        have hm1 := mtag_any _ _ (blockP key) [b] _ (hpb.below ((Below.refl _ _).alloc (Nat.le_refl _) (.cells #[.slice A2 m c2] 27))) (pbs_one (HP.out.below ho7.2) 27) (HK.out.below hba (by have := H1.out; omega)) (HF.out.below hba H1.out) (Nat.lt_of_lt_of_le H1.out hba.size) (by rw [blockP_length]; omega) (by rw [flat_one]; have := HMB.out; omega) (by simp)
        rw [flat_one, tagP_block, ← hT] at hm1
        have hmt := fun (w1 : World) (hb : Below w.heap.size w w1) => mtag_any _ _ key [b] _ (HV.out.below (hb.alloc hb.size (.cells #[.slice A2 m c2] 27))) (pbs_one (HP.out.below hb) 27) (HK.out.below (hb.alloc hb.size (.cells #[.slice A2 m c2] 27)) (by have := H1.out; omega)) (HF.out.below (hb.alloc hb.size (.cells #[.slice A2 m c2] 27)) H1.out) (Nat.lt_of_lt_of_le H1.out (hb.alloc hb.size (.cells #[.slice A2 m c2] 27)).size) (by have := HNK.out; omega) (by rw [flat_one]; have := HMB.out; omega) (by simp)
        rw [flat_one, ← hT] at hmt
        have heq := fun W => eq_bytes T (by rw [hT, tagP_length]) W
        have HM1 := Lib.hid hm1
        have HMT := Lib.hid hmt
        have HBA := Lib.hid hba
        clear hm1 hmt hba hpb ho7 ho1 ho hT hn7
        go_wp2_with fail
        refine HM1.out.mono ?_
        rintro e w3 ⟨rfl, hb3⟩
        have HB3 := Lib.hid (HBA.out.trans (hb3.mono HBA.out.size))
        have hm3 := HMT.out w3 HB3.out
        have HM3 := Lib.hid hm3
        clear hb3 hm3 HM1 HBA
        go_wp2_with fail
        refine HM3.out.mono ?_
        rintro e w4 ⟨rfl, hb4⟩
        have HB4 := Lib.hid ((HB3.out.alloc HB3.out.size _).trans (hb4.mono (HB3.out.alloc HB3.out.size (.cells #[.slice A2 m c2] 27)).size))
        have ha := mawake_any w4 (HK.out.below HB4.out (by have := H1.out; omega)) (HF.out.below HB4.out H1.out) (Nat.lt_of_lt_of_le H1.out HB4.out.size)
        have HA := Lib.hid ha
        clear hb4 HM3 HB3 ha
        go_wp2_with fail
        refine HA.out.mono ?_
        rintro e w8 ⟨rfl, hb8⟩
        have HB8 := Lib.hid (HB4.out.trans (hb8.mono HB4.out.size))
        clear hb8 HA HB4 heq
        go_wp2_with fail
        go_ret
        exact ⟨rfl, HB8.out⟩
end Go.Proofs.YtbnmblhpoaaegaaDoor
