/- Frames: the reference's frames; whether two rows of frames are alike. -/
import Derived.Test.YtggoclmboemmlaaF5
namespace Go.Proofs.Ytggoclmboemmlaa
open Go.RowKit

theorem conv_pb {w : World} {v : Value} {l : List UInt8} (h : Pb w v l) : (convert 24 9 v).run Try.prog w = .ok (.string ⟨l.toArray⟩) w := by
  obtain ⟨A, c, rfl, _, hr⟩ := h
  rcases A with _ | ad
  · have hl : l = [] := by
      rcases l with _ | ⟨x, l⟩
      · rfl
      · obtain ⟨b, o, hA, _⟩ := hr (by simp)
        cases hA
    subst hl
    exact run_convert_bytes_nil w 24 5 Try.underlying24 Try.underlying5 0 c 9 Try.underlying9
  · refine run_convert_bytes_back w 24 9 5 ad c l Try.underlying24 Try.underlying5 Try.underlying9 fun j hj => ?_
    obtain ⟨b, o, hA, _, hc⟩ := hr (by omega)
    injection hA with hA
    subst hA
    have := hc j (.int .u8 (l[j].toNat : Int)) (by simp [bv, List.getElem?_eq_getElem hj])
    rw [← this]
    unfold Addr.add
    split <;> simp_all
theorem str_eq (a b : List UInt8) : ((⟨a.toArray⟩ : ByteArray).toList == (⟨b.toArray⟩ : ByteArray).toList) = decide (a = b) := by
  rw [ByteArray.toList_eq, ByteArray.toList_eq, Bool.eq_iff_iff, beq_iff_eq, decide_eq_true_iff]

set_option maxHeartbeats 1000000 in
theorem same_any (v u : Value) (fs gs : List (List UInt8)) (w : World) (hp : Pbs w v fs) (hq : Pbs w u gs) (hpl : fs.length ≤ 9223372036854775807) (hql : gs.length ≤ 9223372036854775807) :
    Calls Try.prog 19 #[v, u] w fun e w' => e = .returned (.bool (decide (fs = gs))) ∧ Below w.heap.size w w' := by
  obtain ⟨A, c, rfl, _, _⟩ := id hp
  obtain ⟨A2, c2, rfl, _, _⟩ := id hq
  obtain ⟨res, hres⟩ : ∃ res, res = decide (fs = gs) := ⟨_, rfl⟩
  rw [← hres]
  obtain ⟨n, hn⟩ : ∃ n, n = fs.length := ⟨_, rfl⟩
  obtain ⟨m, hm⟩ : ∃ m, m = gs.length := ⟨_, rfl⟩
  rw [← hn] at hp hpl ⊢
  rw [← hm] at hq hql ⊢
  have HP := Lib.hid hp
  have HQ := Lib.hid hq
  have HN := Lib.hid hn
  have HM := Lib.hid hm
  have HRES := Lib.hid hres
  have HB0 : Hid (Below w.heap.size w w) := Lib.hid (Below.refl _ _)
  clear hp hq hn hm hres
  go_enter Try.func19, Try.ntmps19
  by_cases hnm : n = m
  · subst hnm
    go_wp2_with fail
    go_loopw [5] (fun i wr => ∃ k : Nat, k ≤ n ∧ i = .int .i64 k ∧ Hid (fs.take k = gs.take k) ∧ Hid (Below w.heap.size w wr)) (fun i _ => n - (intOf i).toNat)
    case atStart => exact ⟨0, by omega, rfl, by simp [Hid], HB0⟩
    case round =>
      clear HB0
      obtain ⟨k, hk, rfl, hs, hb⟩ := hrel
      by_cases hlt : k < n
      · have hkf : k < fs.length := by rw [← HN.out]; exact hlt
        have hkg : k < gs.length := by rw [← HM.out]; exact hlt
        obtain ⟨b1, o1, c3, u1, e1, hb1, hc1, hp1⟩ := HP.out.get hkf
        obtain ⟨b2, o2, c4, u2, e2, hb2, hc2, hp2⟩ := HQ.out.get hkg
        injection e1 with e3 _ e4
        injection e2 with e5 _ e6
        subst e3 e4 e5 e6
        have hcell1 := (hb.out.cell (p := ⟨b1, o1 + k, none⟩) hb1).trans hc1
        have hcell2 := (hb.out.cell (p := ⟨b2, o2 + k, none⟩) hb2).trans hc2
        have k1 := fun (d : Unit) => conv_pb (hp1.below hb.out.drew)
        have k2 := fun (d : Unit) => conv_pb (hp2.below hb.out.drew)
        have hse := str_eq fs[k] gs[k]
        obtain ⟨A3, n3, c5, rfl⟩ : ∃ A n c, u1 = .slice A n c := by obtain ⟨A, c, e, _⟩ := hp1; exact ⟨A, _, c, e⟩
        obtain ⟨A4, n4, c6, rfl⟩ : ∃ A n c, u2 = .slice A n c := by obtain ⟨A, c, e, _⟩ := hp2; exact ⟨A, _, c, e⟩
        obtain ⟨s1, hs1⟩ : ∃ s : ByteArray, s = ⟨fs[k].toArray⟩ := ⟨_, rfl⟩
        obtain ⟨s2, hs2⟩ : ∃ s : ByteArray, s = ⟨gs[k].toArray⟩ := ⟨_, rfl⟩
        rw [← hs1] at k1 hse
        rw [← hs2] at k2 hse
        obtain ⟨q, hq⟩ : ∃ q, q = decide (fs[k] = gs[k]) := ⟨_, rfl⟩
        rw [← hq] at hse
        have HQQ := Lib.hid hq
        clear hs1 hs2 hq hc1 hc2 hp1 hp2
        go_upto_region 6 with fail
        have hS : (fun W : World => (convert 24 9 (.slice A3 n3 c5)).run Try.prog W = .ok (.string s1) W ∧ (convert 24 9 (.slice A4 n4 c6)).run Try.prog W = .ok (.string s2) W ∧ W.cell? ⟨b1, o1 + k, none⟩ = some (.slice A3 n3 c5) ∧ W.cell? ⟨b2, o2 + k, none⟩ = some (.slice A4 n4 c6)) wr.drew := ⟨k1 (), k2 (), hcell1, hcell2⟩
        have HS := Lib.hid hS
        have HB := Lib.hid hb.out
        clear hS k1 k2 hcell1 hcell2
        refine wp_region_held_drew (S := fun W => (convert 24 9 (.slice A3 n3 c5)).run Try.prog W = .ok (.string s1) W ∧ (convert 24 9 (.slice A4 n4 c6)).run Try.prog W = .ok (.string s2) W ∧ W.cell? ⟨b1, o1 + k, none⟩ = some (.slice A3 n3 c5) ∧ W.cell? ⟨b2, o2 + k, none⟩ = some (.slice A4 n4 c6)) (by kernel_rfl) HS.out (fun hHeld => ?_)
        obtain ⟨W0, hW0⟩ : ∃ W0, W0 = wr.drew := ⟨_, rfl⟩
        have HB0 := Lib.hid (show Below w.heap.size w W0 by rw [hW0]; exact hb.out.drew)
        rw [← hW0] at hHeld ⊢
        clear hW0
        refine wpAnyH_take (i := 0) (oi := ?oi0) (v := ?v0) ?hi0 ?hs0 ?hf0 ?hr0 ?hQ0 ?hy0 ?hS0 ?h0
        case hi0 => exact (by simp only [List.getElem?_toArray, List.getElem?_cons_zero]; rfl)
        case hs0 => kernel_rfl
        case hf0 => kernel_rfl
        case hr0 => kernel_rfl
        case hQ0 => exact fun _ _ _ h => h
        case hy0 =>
          refine Or.inl ⟨rfl, ?_⟩
          intro W hSw
          obtain ⟨q1, q2, q3, q4⟩ := hSw
          go_simp
          try with_reducible rfl
        case hS0 => assumption
        try simp only [Act.put, List.setIfInBounds_toArray, List.set_cons_zero, List.set_cons_succ]
        refine wpAnyH_take (i := 1) (oi := ?oi1) (v := ?v1) ?hi1 ?hs1 ?hf1 ?hr1 ?hQ1 ?hy1 ?hS1 ?h1
        case hi1 => exact (by simp only [List.getElem?_toArray, List.getElem?_cons_succ, List.getElem?_cons_zero]; rfl)
        case hs1 => kernel_rfl
        case hf1 => kernel_rfl
        case hr1 => kernel_rfl
        case hQ1 => exact fun _ _ _ h => h
        case hy1 =>
          refine Or.inl ⟨rfl, ?_⟩
          intro W hSw
          obtain ⟨q1, q2, q3, q4⟩ := hSw
          go_simp
          try with_reducible rfl
        case hS1 => assumption
        try simp only [Act.put, List.setIfInBounds_toArray, List.set_cons_zero, List.set_cons_succ]
        refine wpAnyH_take (i := 2) (oi := ?oi2) (v := ?v2) ?hi2 ?hs2 ?hf2 ?hr2 ?hQ2 ?hy2 ?hS2 ?h2
        case hi2 => exact (by simp only [List.getElem?_toArray, List.getElem?_cons_succ, List.getElem?_cons_zero]; rfl)
        case hs2 => kernel_rfl
        case hf2 => kernel_rfl
        case hr2 => kernel_rfl
        case hQ2 => exact fun _ _ _ h => h
        case hy2 =>
          refine Or.inl ⟨rfl, ?_⟩
          intro W hSw
          obtain ⟨q1, q2, q3, q4⟩ := hSw
          go_simp
          try with_reducible rfl
        case hS2 => assumption
        try simp only [Act.put, List.setIfInBounds_toArray, List.set_cons_zero, List.set_cons_succ]
        refine wpAnyH_take (i := 3) (oi := ?oi3) (v := ?v3) ?hi3 ?hs3 ?hf3 ?hr3 ?hQ3 ?hy3 ?hS3 ?h3
        case hi3 => exact (by simp only [List.getElem?_toArray, List.getElem?_cons_succ, List.getElem?_cons_zero]; rfl)
        case hs3 => kernel_rfl
        case hf3 => kernel_rfl
        case hr3 => kernel_rfl
        case hQ3 => exact fun _ _ _ h => h
        case hy3 =>
          refine Or.inl ⟨rfl, ?_⟩
          intro W hSw
          obtain ⟨q1, q2, q3, q4⟩ := hSw
          go_simp
          try with_reducible rfl
        case hS3 => assumption
        try simp only [Act.put, List.setIfInBounds_toArray, List.set_cons_zero, List.set_cons_succ]
        refine wpAnyH_take (i := 4) (oi := ?oi4) (v := ?v4) ?hi4 ?hs4 ?hf4 ?hr4 ?hQ4 ?hy4 ?hS4 ?h4
        case hi4 => exact (by simp only [List.getElem?_toArray, List.getElem?_cons_succ, List.getElem?_cons_zero]; rfl)
        case hs4 => kernel_rfl
        case hf4 => kernel_rfl
        case hr4 => kernel_rfl
        case hQ4 => exact fun _ _ _ h => h
        case hy4 =>
          refine Or.inl ⟨rfl, ?_⟩
          intro W hSw
          obtain ⟨q1, q2, q3, q4⟩ := hSw
          go_simp
          try with_reducible rfl
        case hS4 => assumption
        try simp only [Act.put, List.setIfInBounds_toArray, List.set_cons_zero, List.set_cons_succ]
        refine wpAnyH_take (i := 5) (oi := ?oi5) (v := ?v5) ?hi5 ?hs5 ?hf5 ?hr5 ?hQ5 ?hy5 ?hS5 ?h5
        case hi5 => exact (by simp only [List.getElem?_toArray, List.getElem?_cons_succ, List.getElem?_cons_zero]; rfl)
        case hs5 => kernel_rfl
        case hf5 => kernel_rfl
        case hr5 => kernel_rfl
        case hQ5 => exact fun _ _ _ h => h
        case hy5 =>
          refine Or.inl ⟨rfl, ?_⟩
          intro W hSw
          obtain ⟨q1, q2, q3, q4⟩ := hSw
          go_simp
          try with_reducible rfl
        case hS5 => assumption
        try simp only [Act.put, List.setIfInBounds_toArray, List.set_cons_zero, List.set_cons_succ]
        refine wpAnyH_take (i := 6) (oi := ?oi6) (v := ?v6) ?hi6 ?hs6 ?hf6 ?hr6 ?hQ6 ?hy6 ?hS6 ?h6
        case hi6 => exact (by simp only [List.getElem?_toArray, List.getElem?_cons_succ, List.getElem?_cons_zero]; rfl)
        case hs6 => kernel_rfl
        case hf6 => kernel_rfl
        case hr6 => kernel_rfl
        case hQ6 => exact fun _ _ _ h => h
        case hy6 =>
          refine Or.inl ⟨rfl, ?_⟩
          intro W hSw
          obtain ⟨q1, q2, q3, q4⟩ := hSw
          go_simp
          try with_reducible rfl
        case hS6 => assumption
        try simp only [Act.put, List.setIfInBounds_toArray, List.set_cons_zero, List.set_cons_succ]
        refine wpAnyH_take (i := 7) (oi := ?oi7) (v := ?v7) ?hi7 ?hs7 ?hf7 ?hr7 ?hQ7 ?hy7 ?hS7 ?h7
        case hi7 => exact (by simp only [List.getElem?_toArray, List.getElem?_cons_succ, List.getElem?_cons_zero]; rfl)
        case hs7 => kernel_rfl
        case hf7 => kernel_rfl
        case hr7 => kernel_rfl
        case hQ7 => exact fun _ _ _ h => h
        case hy7 =>
          refine Or.inl ⟨rfl, ?_⟩
          intro W hSw
          obtain ⟨q1, q2, q3, q4⟩ := hSw
          go_simp
          try with_reducible rfl
        case hS7 => assumption
        try simp only [Act.put, List.setIfInBounds_toArray, List.set_cons_zero, List.set_cons_succ]
        refine wpAnyH_take (i := 8) (oi := ?oi8) (v := ?v8) ?hi8 ?hs8 ?hf8 ?hr8 ?hQ8 ?hy8 ?hS8 ?h8
        case hi8 => exact (by simp only [List.getElem?_toArray, List.getElem?_cons_succ, List.getElem?_cons_zero]; rfl)
        case hs8 => kernel_rfl
        case hf8 => kernel_rfl
        case hr8 => kernel_rfl
        case hQ8 => exact fun _ _ _ h => h
        case hy8 =>
          refine Or.inl ⟨rfl, ?_⟩
          intro W hSw
          obtain ⟨q1, q2, q3, q4⟩ := hSw
          go_simp
          try with_reducible rfl
        case hS8 => assumption
        try simp only [Act.put, List.setIfInBounds_toArray, List.set_cons_zero, List.set_cons_succ]
        refine wpAnyH_take (i := 9) (oi := ?oi9) (v := ?v9) ?hi9 ?hs9 ?hf9 ?hr9 ?hQ9 ?hy9 ?hS9 ?h9
        case hi9 => exact (by simp only [List.getElem?_toArray, List.getElem?_cons_succ, List.getElem?_cons_zero]; rfl)
        case hs9 => kernel_rfl
        case hf9 => kernel_rfl
        case hr9 => kernel_rfl
        case hQ9 => exact fun _ _ _ h => h
        case hy9 =>
          refine Or.inl ⟨rfl, ?_⟩
          intro W hSw
          obtain ⟨q1, q2, q3, q4⟩ := hSw
          go_simp
          try with_reducible rfl
        case hS9 => assumption
        try simp only [Act.put, List.setIfInBounds_toArray, List.set_cons_zero, List.set_cons_succ]
        refine wpAnyH_take (i := 10) (oi := ?oi10) (v := ?v10) ?hi10 ?hs10 ?hf10 ?hr10 ?hQ10 ?hy10 ?hS10 ?h10
        case hi10 => exact (by simp only [List.getElem?_toArray, List.getElem?_cons_succ, List.getElem?_cons_zero]; rfl)
        case hs10 => kernel_rfl
        case hf10 => kernel_rfl
        case hr10 => kernel_rfl
        case hQ10 => exact fun _ _ _ h => h
        case hy10 =>
          refine Or.inl ⟨rfl, ?_⟩
          intro W hSw
          obtain ⟨q1, q2, q3, q4⟩ := hSw
          go_simp
          try with_reducible rfl
        case hS10 => assumption
        try simp only [Act.put, List.setIfInBounds_toArray, List.set_cons_zero, List.set_cons_succ]
        refine wpAnyH_done (by kernel_rfl) ?_ _
        clear hHeld
        cases q with
        | false =>
          have hne : fs ≠ gs := by
            intro e
            have := decide_eq_false_iff_not.1 HQQ.out.symm
            apply this
            simp [e]
          have HRE : Hid (res = false) := HRES.out.trans (decide_eq_false hne)
          go_wp2_with fail
          go_ret
          exact ⟨by rw [HRE.out]; rfl, HB0.out⟩
        | true =>
          have he := decide_eq_true_iff.1 HQQ.out.symm
          have HE := Lib.hid he
          clear he
          go_wp2_with fail
          go_roundw
          case rel =>
            refine ⟨k + 1, by omega, by go_num, ?_, HB0⟩
            show fs.take (k + 1) = gs.take (k + 1)
            rw [List.take_succ_eq_append_getElem hkf, List.take_succ_eq_append_getElem hkg, hs.out, HE.out]
          case measure => simp [intOf] <;> omega
      · have hk2 : k = n := by omega
        have h1 := hs.out
        rw [List.take_of_length_le (by rw [← HN.out]; omega), List.take_of_length_le (by rw [← HM.out]; omega)] at h1
        have HRE : Hid (res = true) := HRES.out.trans (decide_eq_true h1)
        clear h1
        go_wp2_with fail
        go_ret
        exact ⟨by rw [HRE.out]; rfl, hb.out⟩
  · have hne : fs ≠ gs := fun e => hnm (by rw [HN.out, HM.out, e])
    have HRE : Hid (res = false) := HRES.out.trans (decide_eq_false hne)
    have t : ((n : Int) != (m : Int)) = true := by rw [bne_iff_ne]; omega
    go_wp2_with fail
    go_ret
    exact ⟨by rw [HRE.out]; rfl, Below.refl _ _⟩
end Go.Proofs.Ytggoclmboemmlaa
