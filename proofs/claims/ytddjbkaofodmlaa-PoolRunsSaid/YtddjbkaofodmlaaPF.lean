/- Pool: the document's Late, New. -/
import Derived.Test.YtddjbkaofodmlaaPE
namespace Go.Proofs.Ytddjbkaofodmlaa
open Go.RowKit
set_option maxRecDepth 20000
set_option linter.unusedVariables false
set_option linter.unusedSimpArgs false

theorem own_base {w : World} {base base' T m S : Nat} {v : Value} {xs : List Value} (h : w.ownsRow base T S v m xs) (hb : base' ≤ base) : w.ownsRow base' T S v m xs := by
  refine ⟨h.1, ?_⟩
  rcases h.2 with hn | ⟨g, cap, cur, rfl, hbg, rest⟩
  · exact .inl hn
  · exact .inr ⟨g, cap, cur, rfl, Nat.le_trans hb hbg, rest⟩
set_option maxHeartbeats 8000000 in
theorem rlate_any (A : Option Addr) (n c : Nat) (beat now : Int) (l : List In) (w : World) (hn : n = l.length) (hR0 : Rs w w.heap.size A l) (hl : n ≤ 16) (hI : ∀ e ∈ l, inI e.2.2) (hb : inI beat) (hnow : inI now) :
    Calls Try.prog 32 #[rV A n c beat, .int .i64 now] w fun r w' => ∃ v', r = .returned v' ∧ w'.ownsRow w.heap.size 29 1 v' (lateU beat now l 0).length (un (lateU beat now l 0)) ∧ Below w.heap.size w w' := by
  obtain ⟨w0, hw0⟩ : ∃ w0, w0 = w.alloc (.cells (rC A n c beat) 27) := ⟨_, rfl⟩
  have hb0 : Below w.heap.size w w0 := by rw [hw0]; exact (Below.refl _ _).alloc (Nat.le_refl _) _
  have hq0 : w0.heap[w.heap.size]? = some (.cells (rC A n c beat) 27 (0, 0)) := by rw [hw0]; exact heap_alloc_new w _
  have HS0 : Hid (w0.heap.size = w.heap.size + 1) := by rw [hw0]; simp [Hid]
  have HRR : Hid (Rs w0 w.heap.size A l) := hR0.below hb0
  have HCC : Hid (∀ W, Below w0.heap.size w0 W → W.cell? ⟨w.heap.size, 0, none⟩ = some (.slice A n c) ∧ W.cell? ⟨w.heap.size, 1, none⟩ = some (.int .i64 beat)) := fun W hW => by
    have e := (hW.block _ (lt_of_block hq0)).trans hq0
    exact ⟨cell_of_row W _ 0 _ _ _ e, cell_of_row W _ 1 _ _ _ e⟩
  have HA : Hid (∀ k s m a, l[k]? = some (s, m, a) → inI a ∧ ∀ W, Calls Try.prog 17 #[.int .i64 a, .int .i64 beat] W fun r w' => r = .returned (.int .i64 (addP a beat)) ∧ w' = W) := fun k s m a hk => ⟨hI _ (List.mem_of_getElem? hk), fun W => radd_any a beat W (hI _ (List.mem_of_getElem? hk)) hb⟩
  have HBr : Hid (Below w0.heap.size w0 w0) := Below.refl _ _
  have HB0 := Lib.hid hb0
  have H0 := Lib.hid hw0
  have HN := Lib.hid hn
  clear hI hw0 hb0 hq0 hn hR0
  obtain ⟨hb1, hb2⟩ := hb
  obtain ⟨hn1, hn2⟩ := hnow
  go_enter Try.func32, Try.ntmps32
  go_upto_region 1 with (fail)
  rw [← H0.out]
  go_wp2_with fail
  go_loopw [5, 6] (fun o u wr => ∃ (k : Nat), k ≤ n ∧ u = .int .i64 (k : Int) ∧ Hid (wr.ownsRow w0.heap.size 29 1 o (lateU beat now (l.take k) 0).length (un (lateU beat now (l.take k) 0)) ∧ Below w0.heap.size w0 wr)) (fun _ u _ => n - (intOf u).toNat)
  case atStart => exact ⟨0, by omega, rfl, World.ownsRow_nil w0 _ 29 1, HBr.out⟩
  case round =>
    obtain ⟨k, hk, rfl, HV⟩ := hrel
    obtain ⟨A2, c2, rfl⟩ := own_form1 HV.out.1
    by_cases hlt : k < n
    · obtain ⟨⟨s, m, a⟩, hy⟩ : ∃ e, l[k]? = some e := ⟨l[k]'(by rw [← HN.out]; exact hlt), List.getElem?_eq_getElem _⟩
      obtain ⟨b1, o1, rfl, hb1', ha1⟩ := HRR.out (by have := HN.out; omega)
      obtain ⟨p0, p1⟩ := HCC.out wr HV.out.2
      have hbw : Below w.heap.size w0 wr := HV.out.2.mono (by have := HS0.out; omega)
      have d0 := (hbw.cell (p := ⟨b1, _, none⟩) hb1').trans (ha1 k _ hy).1
      have d2 := (hbw.cell (p := ⟨b1, _, none⟩) hb1').trans (ha1 k _ hy).2.2
      simp only at d0 d2
      obtain ⟨⟨ha1', ha2'⟩, hAD⟩ := HA.out k s m a hy
      have HAD := Lib.hid hAD
      obtain ⟨D, hD⟩ : ∃ D, D = addP a beat := ⟨_, rfl⟩
      rw [← hD] at HAD
      have HTK : Hid (lateU beat now (l.take (k + 1)) 0 = lateU beat now (l.take k) 0 ++ (if lt1 beat now (s, m, a) = true then [k + 1] else [])) := by
        simp only [Hid]
        rw [List.take_add_one, hy]
        show lateU beat now (l.take k ++ [(s, m, a)]) 0 = _
        rw [lateU_snoc, List.length_take, Nat.min_eq_left (by have := HN.out; omega), Nat.zero_add]
      have HLT : Hid (lt1 beat now (s, m, a) = (!decide (s = 0) && decide (D ≤ now))) := by simp only [Hid, lt1, hD]
      obtain ⟨mm, hm⟩ : ∃ mm, mm = (lateU beat now (l.take k) 0).length := ⟨_, rfl⟩
      have hmk : mm ≤ k := by rw [hm]; exact Nat.le_trans (lateU_len _ _ _ _) (by rw [List.length_take]; omega)
      rw [← hm] at HV ⊢
      have HMM := Lib.hid hm
      clear hy hm hD hAD ha1 hb1' hbw
      by_cases hs : s = 0
      · have hs' : (s != 0) = false := by simp [hs]
        have HF : Hid (lt1 beat now (s, m, a) = false) := by simp only [Hid]; rw [HLT.out]; simp [hs]
        subst hs
        go_upto_region 5 with (fail)
        go_quiet ((go_at_call 17; exact Calls.quiet_of_same (HAD.out _)))
        go_wp2_with fail
        go_roundw
        case rel => exact ⟨k + 1, by omega, by go_num, by
          simp only [Hid]
          rw [HTK.out, HF.out]
          simp only [Bool.false_eq_true, if_false, List.append_nil]
          rw [← HMM.out]
          exact ⟨HV.out.1, belowN HV.out.2⟩⟩
        case measure => simp [intOf] <;> omega
      · have hs' : (s != 0) = true := by simp [hs]
        by_cases hD : D ≤ now
        · have HF : Hid (lt1 beat now (s, m, a) = true) := by simp only [Hid]; rw [HLT.out]; simp [hs, hD]
          go_upto_region 5 with (fail)
          go_quiet ((go_at_call 17; exact Calls.quiet_of_same (HAD.out _)))
          obtain ⟨w3, hw3⟩ : ∃ w3, w3 = (wr.drewN nq).alloc (.cells #[.int .u32 ((k : Int) + 1)] 29) := ⟨_, rfl⟩
          have hg3 : w3.heap[wr.heap.size]? = some (.cells #[.int .u32 ((k + 1 : Nat) : Int)] 29 (0, 0)) := by rw [hw3]; exact heap_alloc_new (wr.drewN nq) _
          have hb3 : Below wr.heap.size wr w3 := by rw [hw3]; exact (belowN (Below.refl _ _)).alloc (Nat.le_refl _) _
          have HO3 : Hid (w3.ownsRow w0.heap.size 29 1 (.slice A2 mm c2) mm (un (lateU beat now (l.take k) 0))) := own_after HV.out.1 fun g hg => hb3.block g (ownlt HV.out.1 g hg).2
          have HB3 : Hid (Below w0.heap.size w0 w3) := HV.out.2.trans (hb3.mono HV.out.2.size)
          have H3 := Lib.hid hw3
          have ht : Hid (∀ W : World, W = w3 → W.ownsRow w0.heap.size 29 1 (.slice A2 mm c2) mm (un (lateU beat now (l.take k) 0)) ∧ W.heap[wr.heap.size]? = some (.cells #[.int .u32 ((k + 1 : Nat) : Int)] 29 (0, 0)) ∧ w0.heap.size ≤ W.heap.size) := fun W e => by rw [e]; exact ⟨HO3.out, hg3, HB3.out.size⟩
          clear hg3 hb3 hw3
          go_wp2_with (at_builtin; refine wpList_append_u32 rfl (.tmp 34) (.tmp 38) rfl w0.heap.size wr.heap.size (.slice A2 mm c2) mm (un (lateU beat now (l.take k) 0)) (k + 1) rfl rfl (ht.out _ H3.out.symm).1 (ht.out _ H3.out.symm).2.1 (by omega) (ht.out _ H3.out.symm).2.2 ?_; intro v4 w4 hown4 hg4; rw [← H3.out] at hg4; obtain ⟨A4, c4, rfl⟩ := own_form1 hown4; have HO4 := Lib.hid hown4; have HB4 : Hid (Below w0.heap.size w0 w4) := HB3.out.grown hg4 HB3.out.size (fun g h => (ownlt HO3.out g h).1); clear hown4 hg4)
          go_roundw
          case rel => exact ⟨k + 1, by omega, by go_num, by
            simp only [Hid]
            rw [HTK.out, HF.out]
            simp only [if_true, List.length_append, List.length_cons, List.length_nil]
            rw [← HMM.out]
            have e : un (lateU beat now (l.take k) 0 ++ [k + 1]) = un (lateU beat now (l.take k) 0) ++ [.int .u32 ((k + 1 : Nat) : Int)] := by simp [un]
            rw [e]
            exact ⟨HO4.out, HB4.out⟩⟩
          case measure => simp [intOf] <;> omega
        · have HF : Hid (lt1 beat now (s, m, a) = false) := by simp only [Hid]; rw [HLT.out]; simp [hs, hD]
          go_upto_region 5 with (fail)
          go_quiet ((go_at_call 17; exact Calls.quiet_of_same (HAD.out _)))
          go_wp2_with fail
          go_roundw
          case rel => exact ⟨k + 1, by omega, by go_num, by
            simp only [Hid]
            rw [HTK.out, HF.out]
            simp only [Bool.false_eq_true, if_false, List.append_nil]
            rw [← HMM.out]
            exact ⟨HV.out.1, belowN HV.out.2⟩⟩
          case measure => simp [intOf] <;> omega
    · have hkn : k = n := by omega
      subst hkn
      have e : l.take k = l := List.take_of_length_le (by rw [← HN.out]; omega)
      have HRES : Hid (wr.ownsRow w.heap.size 29 1 (.slice A2 ((lateU beat now (l.take k) 0)).length c2) (lateU beat now l 0).length (un (lateU beat now l 0)) ∧ Below w.heap.size w wr) := by
        have h1 := HV.out
        rw [e] at h1 ⊢
        exact ⟨own_base h1.1 HB0.out.size, HB0.out.trans (h1.2.mono HB0.out.size)⟩
      obtain ⟨p0, p1⟩ := HCC.out wr HV.out.2
      clear e
      go_wp2
      go_ret
      exact ⟨_, rfl, HRES.out.1, HRES.out.2⟩
end Go.Proofs.Ytddjbkaofodmlaa
