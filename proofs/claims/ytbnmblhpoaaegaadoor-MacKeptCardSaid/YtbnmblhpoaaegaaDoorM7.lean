/- A key is not kept: MacKept returns true for every input. -/
import Derived.Test.YtbnmblhpoaaegaaDoorM6
namespace Go.Proofs.YtbnmblhpoaaegaaDoor
open Go.RowKit

set_option maxHeartbeats 2000000 in
set_option maxRecDepth 4000 in
theorem mkept_walk (v u : Value) (key : List UInt8) (ps : List (List UInt8)) (w : World) (hv : Pb w v key) (hp : Pbs w u ps) (hk : Kt w) (hf : Ft w) (h1 : 1 < w.heap.size) (hkl : key.length ≤ 9223372036854775807) (hpl : ps.length ≤ 9223372036854775807) (hql : ∀ p ∈ ps, p.length ≤ 9223372036854775807) :
    Calls Tryd.prog 13 #[v, u] w fun e w' => e = .returned (.bool true) ∧ Below w.heap.size w w' := by
  obtain ⟨A, c, rfl, _, _⟩ := id hv
  obtain ⟨A2, c2, rfl, _, _⟩ := id hp
  have hfew := mfew_any _ ps w hp hpl hql
  obtain ⟨fb, hfb⟩ : ∃ fb, fb = mfewB ps := ⟨_, rfl⟩
  rw [← hfb] at hfew
  obtain ⟨n, hn⟩ : ∃ n, n = key.length := ⟨_, rfl⟩
  rw [← hn] at hv hkl ⊢
  have HN := Lib.hid hn
  have HFEW := Lib.hid hfew
  have HFB := Lib.hid hfb
  have HV := Lib.hid hv
  have HP := Lib.hid hp
  have HK := Lib.hid hk
  have HF := Lib.hid hf
  have H1 := Lib.hid h1
  clear hfew hfb hv hp hk hf hql hn h1
  go_enter Tryd.func13, Tryd.ntmps13
  by_cases hbig : 200 < n
  · have t : decide ((n : Int) > 200) = true := by rw [decide_eq_true_iff]; omega
    go_wp2_with fail
    go_ret
    exact ⟨rfl, Below.refl _ _⟩
  · have t : decide ((n : Int) > 200) = false := by rw [decide_eq_false_iff_not]; omega
    go_wp2_with fail
    refine HFEW.out.mono ?_
    rintro e w0 ⟨rfl, rfl⟩
    clear HFEW
    cases fb with
    | false =>
      go_wp2_with fail
      go_ret
      exact ⟨rfl, Below.refl _ _⟩
    | true =>
      have hfl := mfew_flat HFB.out.symm
      obtain ⟨B, hB⟩ : ∃ B, B = w.heap.size := ⟨_, rfl⟩
      have ho0 : (w.alloc (.cells #[] 5)).ownsRow B 5 1 (.slice (some ⟨w.heap.size, 0, none⟩) 0 0) ([] : List UInt8).length (bv []) := World.ownsRow_lit w #[] 0 (by omega) (by unfold maxLen; omega) rfl
      have hba : Below w.heap.size w (w.alloc (.cells #[] 5)) := (Below.refl _ _).alloc (Nat.le_refl _) _
      have HBB := Lib.hid hB
      have HO0 := Lib.hid ho0
      have HBA := Lib.hid hba
      have HPA := Lib.hid (HV.out.below hba)
      have HNK := Lib.hid (show key.length ≤ 200 by rw [← HN.out]; omega)
      clear hB ho0 hba hbig
      go_wp2_with (at_builtin; refine wpList_append_bytes rfl (.tmp 16) (.tmp 17) rfl B _ (.slice A n c) [] key rfl rfl HO0.out HPA.out (by have := HNK.out; simp; omega) (by rw [HBB.out]; simp) ?_; intro v5 w2 hown2 hg2; have HW2 : Hid (w2.ownsRow B 5 1 v5 key.length (bv key) ∧ Below w.heap.size w w2) := ⟨hown2, HBA.out.grown hg2 HBA.out.size (fun k hk => by rw [← HBB.out]; exact (HO0.out.lt k hk).1)⟩; clear hown2 hg2; obtain ⟨A5, c5, rfl, _, _⟩ := id (own_pb HW2.out.1))
      have hmk := make_any _ key w2 (own_pb HW2.out.1) (HK.out.below HW2.out.2 (by have := H1.out; omega)) (HF.out.below HW2.out.2 H1.out) (Nat.lt_of_lt_of_le H1.out HW2.out.2.size) (by have := HNK.out; omega)
      refine hmk.mono ?_
      rintro e w3 ⟨rfl, hk3, hb3⟩
      obtain ⟨K, hK⟩ : ∃ K, K = w2.heap.size := ⟨_, rfl⟩
      rw [← hK] at hk3 ⊢
      obtain ⟨bl, hbl⟩ : ∃ bl, bl = blockP key := ⟨_, rfl⟩
      rw [← hbl] at hk3
      rw [← HN.out] at HW2 ⊢
      have HNE := Lib.hid (show ∀ g, (Value.slice A5 n c5).ownBlock = some g → g < K by rw [hK]; exact fun g hg => (HW2.out.1.lt g hg).2)
      have HI := Lib.hid (show w3.ownsRow B 5 1 (.slice A5 n c5) n (bv key) ∧ IsK w3 K bl ∧ Below w.heap.size w w3 from ⟨own_below HW2.out.1 hb3, hk3, HW2.out.2.trans (hb3.mono HW2.out.2.size)⟩)
      have HBL := Lib.hid hbl
      clear hmk hk3 hb3 hK hbl HW2 HO0 HBA HPA
      go_wp2_with fail
      go_loopw [7] (fun i wi => ∃ q : Nat, q ≤ n ∧ i = .int .i64 q ∧ ∃ ys : List UInt8, Hid (ys.length = n) ∧ Hid (wi.ownsRow B 5 1 (.slice A5 n c5) n (bv ys) ∧ IsK wi K bl ∧ Below w.heap.size w wi)) (fun i _ => n - (intOf i).toNat)
      case atStart => exact ⟨0, by omega, rfl, key, HN.symm, HI⟩
      case round =>
        clear HI
        obtain ⟨q, hq, rfl, ys, hyl, hi⟩ := hrel
        by_cases hqn : q < n
        · obtain ⟨g, cap, e6⟩ := own_some hi.out.1 (by omega)
          injection e6 with e7 _ e8
          subst e7 e8
          have hyq : q < ys.length := by rw [hyl.out]; exact hqn
          have hcell := hi.out.1.cellAt q (by omega)
          rw [bv_get ys q hyq] at hcell
          have hfr := hi.out.1.frozenAt q
          obtain ⟨y, hy⟩ : ∃ y, y = ys[q] := ⟨_, rfl⟩
          rw [← hy] at hcell
          clear hy
          go_wp2_with fail
          go_roundw
          case rel =>
            have hst := hi.out.1.stored q (.int .u8 ((y ^^^ 255).toNat : Int))
            refine ⟨q + 1, by omega, by go_num, ys.set q (y ^^^ 255), Lib.hid (by simp [hyl.out]), ?_⟩
            rw [xor_byte]
            refine Lib.hid ⟨by rw [← bv_set]; exact hst.1, ⟨hi.out.2.1.1, (hst.2.block K (lt_of_block' hi.out.2.1.2) (fun e => by have := HNE.out K e.symm; omega)).trans hi.out.2.1.2⟩, ?_⟩
            exact hi.out.2.2.grown hst.2 hi.out.2.2.size (fun k hk => by rw [← HBB.out]; exact (hi.out.1.lt k hk).1)
          case measure => simp [intOf] <;> omega
        · have hbw := hi.out.2.2
          have hkt := fun (w1 : World) (hb : Below w.heap.size w w1) (hk1 : IsK w1 K bl) => ktag_any K bl _ ps w1 hk1 (HP.out.below hb) (HK.out.below hb (by have := H1.out; omega)) (HF.out.below hb H1.out) (Nat.lt_of_lt_of_le H1.out hb.size) (by omega) hpl
          have hmt := fun (w1 : World) (hb : Below w.heap.size w w1) => mtag_any _ _ key ps w1 (HV.out.below hb) (HP.out.below hb) (HK.out.below hb (by have := H1.out; omega)) (HF.out.below hb H1.out) (Nat.lt_of_lt_of_le H1.out hb.size) (by have := HNK.out; omega) (by omega) hpl
          obtain ⟨T, hT⟩ : ∃ T, T = tagP key ps.flatten := ⟨_, rfl⟩
          rw [show sumP (mixP 92 bl ++ sumP (mixP 54 bl ++ ps.flatten)) = T by rw [hT, HBL.out]; rfl] at hkt
          rw [← hT] at hmt
          have heq := fun W => eq_bytes T (by rw [hT, tagP_length]) W
          have HKT := Lib.hid hkt
          have HMT := Lib.hid hmt
          have HI := Lib.hid hi.out.2
          have hk1 := hkt wr hbw hi.out.2.1
          have HK1 := Lib.hid hk1
          clear hkt hmt hi hk1 hT hyl
          go_wp2_with fail
          refine HK1.out.mono ?_
          rintro e w4 ⟨rfl, hb4⟩
          have HI4 := Lib.hid (show IsK w4 K bl ∧ Below w.heap.size w w4 from ⟨HI.out.1.below hb4, hbw.trans (hb4.mono hbw.size)⟩)
          have hm4 := HMT.out w4 HI4.out.2
          have HM4 := Lib.hid hm4
          clear hb4 HK1 HI hbw hm4
          go_wp2_with fail
          refine HM4.out.mono ?_
          rintro e w5 ⟨rfl, hb5⟩
          have HI5 := Lib.hid (show IsK w5 K bl ∧ Below w.heap.size w w5 from ⟨HI4.out.1.below hb5, HI4.out.2.trans (hb5.mono HI4.out.2.size)⟩)
          have hm5 := HKT.out w5 HI5.out.2 HI5.out.1
          have HM5 := Lib.hid hm5
          clear hb5 HM4 HI4 hm5
          go_wp2_with fail
          refine HM5.out.mono ?_
          rintro e w6 ⟨rfl, hb6⟩
          have HI6 := Lib.hid (show IsK w6 K bl ∧ Below w.heap.size w w6 from ⟨HI5.out.1.below hb6, HI5.out.2.trans (hb6.mono HI5.out.2.size)⟩)
          have hm6 := HKT.out w6 HI6.out.2 HI6.out.1
          have HM6 := Lib.hid hm6
          clear hb6 HM5 HI5 hm6
          go_wp2_with fail
          refine HM6.out.mono ?_
          rintro e w7 ⟨rfl, hb7⟩
          have HB7 := Lib.hid (HI6.out.2.trans (hb7.mono HI6.out.2.size))
          have ha := mawake_any w7 (HK.out.below HB7.out (by have := H1.out; omega)) (HF.out.below HB7.out H1.out) (Nat.lt_of_lt_of_le H1.out HB7.out.size)
          have HA := Lib.hid ha
          clear hb7 HM6 HI6 ha
          go_wp2_with fail
          refine HA.out.mono ?_
          rintro e w8 ⟨rfl, hb8⟩
          have HB8 := Lib.hid (HB7.out.trans (hb8.mono HB7.out.size))
          clear hb8 HA HB7 heq
          go_wp2_with fail
          go_ret
          exact ⟨rfl, HB8.out⟩
end Go.Proofs.YtbnmblhpoaaegaaDoor
