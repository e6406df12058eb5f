/- Pool: Late; awake. -/
import Derived.Test.YtddjbkaofodmlaaP7
namespace Go.Proofs.Ytddjbkaofodmlaa
open Go.RowKit
set_option maxRecDepth 20000
set_option linter.unusedVariables false
set_option linter.unusedSimpArgs false

theorem own_drewN {w : World} {base T m S n : Nat} {v : Value} {xs : List Value} (h : w.ownsRow base T S v m xs) : (w.drewN n).ownsRow base T S v m xs := h
theorem belowN {B n : Nat} {a w : World} (h : Below B a w) : Below B a (w.drewN n) := ⟨h.os, h.tape, h.output, h.size, h.block⟩
set_option maxHeartbeats 8000000 in
theorem late_any {B P I : Nat} {beat : Int} {l : List In} (now : Int) (w : World) (h : Po w B P I beat l) (hI : ∀ e ∈ l, inI e.2.2) (hb : inI beat) (hnow : inI now) :
    Calls Try.prog 18 #[.pointer (some ⟨P, 0, none⟩), .int .i64 now] w fun r w' => ∃ v', r = .returned v' ∧ w'.ownsRow w.heap.size 29 1 v' (lateU beat now l 0).length (un (lateU beat now l 0)) ∧ Below w.heap.size w w' := by
  have HM := Lib.hid (many_any w h)
  have HH := Lib.hid h
  have HPL := Lib.hid (Nat.lt_of_le_of_lt (Nat.le_refl _) (lt_of_block h.2.2.2.1))
  have HIL := Lib.hid (Nat.lt_of_le_of_lt (Nat.le_refl _) (lt_of_block h.2.2.2.2))
  have HA : Hid (∀ k s m a, l[k]? = some (s, m, a) → inI a ∧ ∀ W, Calls Try.prog 38 #[.int .i64 a, .int .i64 beat] W fun r w' => r = .returned (.int .i64 (addP a beat)) ∧ w' = W) := fun k s m a hk => ⟨hI _ (List.mem_of_getElem? hk), fun W => add_any a beat W (hI _ (List.mem_of_getElem? hk)) hb⟩
  obtain ⟨n, hn⟩ : ∃ n, n = l.length := ⟨_, rfl⟩
  have hl := h.2.2.1
  have HBr : Hid (Below w.heap.size w w) := Below.refl _ _
  rw [← hn] at HM hl
  have HN := Lib.hid hn
  have HC1 : Hid (∀ W, Below w.heap.size w W → W.cell? ⟨P, 0, none⟩ = some (.int .i64 beat) ∧ W.cell? ⟨P, 1, none⟩ = some (.slice (some ⟨I, 0, none⟩) n n)) := fun W hW => ⟨(hW.cell (p := ⟨P, 0, none⟩) HPL.out).trans h.p0, (hW.cell (p := ⟨P, 1, none⟩) HPL.out).trans (by rw [hn]; exact h.p1)⟩
  have HC2 : Hid (∀ W, Below w.heap.size w W → ∀ k s m a, l[k]? = some (s, m, a) → W.cell? ⟨I, k * 3, none⟩ = some (.int .i64 s) ∧ W.cell? ⟨I, k * 3 + 1, none⟩ = some (.int .u32 m) ∧ W.cell? ⟨I, k * 3 + 2, none⟩ = some (.int .i64 a)) := fun W hW k s m a hk => by
    obtain ⟨e0, e1, e2⟩ := h.at hk
    exact ⟨(hW.cell (p := ⟨I, _, none⟩) HIL.out).trans e0, (hW.cell (p := ⟨I, _, none⟩) HIL.out).trans e1, (hW.cell (p := ⟨I, _, none⟩) HIL.out).trans e2⟩
  clear h hn hI
  obtain ⟨hb1, hb2⟩ := hb
  obtain ⟨hn1, hn2⟩ := hnow
  go_enter Try.func18, Try.ntmps18
  go_wp2_with fail
  refine HM.out.mono ?_
  rintro r w' ⟨rfl, rfl⟩
  go_wp2_with fail
  go_loopw [5, 10] (fun o u wr => ∃ (k : Nat), k ≤ n ∧ u = .int .i64 (k : Int) ∧ Hid (wr.ownsRow w'.heap.size 29 1 o (lateU beat now (l.take k) 0).length (un (lateU beat now (l.take k) 0)) ∧ Below w'.heap.size w' wr)) (fun _ u _ => n - (intOf u).toNat)
  case atStart => exact ⟨0, by omega, rfl, World.ownsRow_nil w' _ 29 1, HBr.out⟩
  case round =>
    obtain ⟨k, hk, rfl, HV⟩ := hrel
    obtain ⟨A, c2, rfl⟩ := own_form1 HV.out.1
    by_cases hlt : k < n
    · obtain ⟨⟨s, m, a⟩, hy⟩ : ∃ e, l[k]? = some e := ⟨l[k]'(by rw [← HN.out]; exact hlt), List.getElem?_eq_getElem _⟩
      obtain ⟨p0, p1⟩ := HC1.out wr HV.out.2
      obtain ⟨d0, d1, d2⟩ := HC2.out wr HV.out.2 k s m a hy
      obtain ⟨⟨ha1, ha2⟩, hAD⟩ := HA.out k s m a hy
      have HAD := Lib.hid hAD
      obtain ⟨D, hD⟩ : ∃ D, D = addP a beat := ⟨_, rfl⟩
      rw [← hD] at HAD
      have HTK : Hid (lateU beat now (l.take (k + 1)) 0 = lateU beat now (l.take k) 0 ++ (if lt1 beat now (s, m, a) = true then [k + 1] else [])) := by
        simp only [Hid]
        rw [List.take_add_one, hy]
        show lateU beat now (l.take k ++ [(s, m, a)]) 0 = _
        rw [lateU_snoc, List.length_take, Nat.min_eq_left (by have := HN.out; omega), Nat.zero_add]
      have HLT : Hid (lt1 beat now (s, m, a) = (!decide (s = 0) && decide (D ≤ now))) := by simp only [Hid, lt1, hD]
      obtain ⟨mm, hm⟩ : ∃ mm, mm = (lateU beat now (l.take k) 0).length := ⟨_, rfl⟩
      have hmk : mm ≤ k := by rw [hm]; exact Nat.le_trans (lateU_len _ _ _ _) (by rw [List.length_take]; omega)
      rw [← hm] at HV ⊢
      have HMM := Lib.hid hm
      obtain ⟨w2, hw2⟩ : ∃ w2, w2 = wr.alloc (.cells (iC s m a) 42) := ⟨_, rfl⟩
      have hg2 : w2.heap[wr.heap.size]? = some (.cells (iC s m a) 42 (0, 0)) := by rw [hw2]; exact heap_alloc_new wr _
      have hb2' : Below wr.heap.size wr w2 := by rw [hw2]; exact (Below.refl _ _).alloc (Nat.le_refl _) _
      have HB2 : Hid (Below w'.heap.size w' w2) := HV.out.2.trans (hb2'.mono HV.out.2.size)
      have HO2 : Hid (w2.ownsRow w'.heap.size 29 1 (.slice A mm c2) mm (un (lateU beat now (l.take k) 0))) := own_after HV.out.1 fun g hg => hb2'.block g (ownlt HV.out.1 g hg).2
      have q0 := cell_of_row w2 wr.heap.size 0 _ _ _ hg2
      have q2 := cell_of_row w2 wr.heap.size 2 _ _ _ hg2
      simp at q0 q2
      obtain ⟨p2, p3⟩ := HC1.out w2 HB2.out
      have H2 := Lib.hid hw2
      clear hy hm hg2 hb2' hw2 hD hAD
      by_cases hs : s = 0
      · have hs' : (s != 0) = false := by simp [hs]
        have HF : Hid (lt1 beat now (s, m, a) = false) := by simp only [Hid]; rw [HLT.out]; simp [hs]
        subst hs
        go_upto_region 6 with (fail)
        rw [← H2.out]
        go_quiet ((go_at_call 38; exact Calls.quiet_of_same (HAD.out _)))
        go_wp2_with fail
        go_roundw
        case rel => exact ⟨k + 1, by omega, by go_num, by
          simp only [Hid]
          rw [HTK.out, HF.out]
          simp only [Bool.false_eq_true, if_false, List.append_nil]
          rw [← HMM.out]
          exact ⟨HO2.out, belowN HB2.out⟩⟩
        case measure => simp [intOf] <;> omega
      · have hs' : (s != 0) = true := by simp [hs]
        by_cases hD : D ≤ now
        · have HF : Hid (lt1 beat now (s, m, a) = true) := by simp only [Hid]; rw [HLT.out]; simp [hs, hD]
          go_upto_region 6 with (fail)
          rw [← H2.out]
          go_quiet ((go_at_call 38; exact Calls.quiet_of_same (HAD.out _)))
          obtain ⟨w3, hw3⟩ : ∃ w3, w3 = (w2.drewN nq).alloc (.cells #[.int .u32 ((k : Int) + 1)] 29) := ⟨_, rfl⟩
          have hg3 : w3.heap[w2.heap.size]? = some (.cells #[.int .u32 ((k + 1 : Nat) : Int)] 29 (0, 0)) := by rw [hw3]; exact heap_alloc_new (w2.drewN nq) _
          have hb3 : Below w2.heap.size w2 w3 := by rw [hw3]; exact (belowN (Below.refl _ _)).alloc (Nat.le_refl _) _
          have HO3 : Hid (w3.ownsRow w'.heap.size 29 1 (.slice A mm c2) mm (un (lateU beat now (l.take k) 0))) := own_after HO2.out fun g hg => hb3.block g (ownlt HO2.out g hg).2
          have HB3 : Hid (Below w'.heap.size w' w3) := HB2.out.trans (hb3.mono HB2.out.size)
          have H3 := Lib.hid hw3
          have ht : Hid (∀ W : World, W = w3 → W.ownsRow w'.heap.size 29 1 (.slice A mm c2) mm (un (lateU beat now (l.take k) 0)) ∧ W.heap[w2.heap.size]? = some (.cells #[.int .u32 ((k + 1 : Nat) : Int)] 29 (0, 0)) ∧ w'.heap.size ≤ W.heap.size) := fun W e => by rw [e]; exact ⟨HO3.out, hg3, HB3.out.size⟩
          clear hg3 hb3 hw3
          go_wp2_with (at_builtin; refine wpList_append_u32 rfl (.tmp 34) (.tmp 38) rfl w'.heap.size w2.heap.size (.slice A mm c2) mm (un (lateU beat now (l.take k) 0)) (k + 1) rfl rfl (ht.out _ H3.out.symm).1 (ht.out _ H3.out.symm).2.1 (by omega) (ht.out _ H3.out.symm).2.2 ?_; intro v4 w4 hown4 hg4; rw [← H3.out] at hg4; obtain ⟨A4, c4, rfl⟩ := own_form1 hown4; have HO4 := Lib.hid hown4; have HB4 : Hid (Below w'.heap.size w' w4) := HB3.out.grown hg4 HB3.out.size (fun g h => (ownlt HO3.out g h).1); clear hown4 hg4)
          go_roundw
          case rel => exact ⟨k + 1, by omega, by go_num, by
            simp only [Hid]
            rw [HTK.out, HF.out]
            simp only [if_true, List.length_append, List.length_cons, List.length_nil]
            rw [← HMM.out]
            have e : un (lateU beat now (l.take k) 0 ++ [k + 1]) = un (lateU beat now (l.take k) 0) ++ [.int .u32 ((k + 1 : Nat) : Int)] := by simp [un]
            rw [e]
            exact ⟨HO4.out, HB4.out⟩⟩
          case measure => simp [intOf] <;> omega
        · have HF : Hid (lt1 beat now (s, m, a) = false) := by simp only [Hid]; rw [HLT.out]; simp [hs, hD]
          go_upto_region 6 with (fail)
          rw [← H2.out]
          go_quiet ((go_at_call 38; exact Calls.quiet_of_same (HAD.out _)))
          go_wp2_with fail
          go_roundw
          case rel => exact ⟨k + 1, by omega, by go_num, by
            simp only [Hid]
            rw [HTK.out, HF.out]
            simp only [Bool.false_eq_true, if_false, List.append_nil]
            rw [← HMM.out]
            exact ⟨HO2.out, belowN HB2.out⟩⟩
          case measure => simp [intOf] <;> omega
    · have hkn : k = n := by omega
      subst hkn
      have e : l.take k = l := List.take_of_length_le (by rw [← HN.out]; omega)
      have HRES : Hid (wr.ownsRow w'.heap.size 29 1 (.slice A ((lateU beat now (l.take k) 0)).length c2) (lateU beat now l 0).length (un (lateU beat now l 0)) ∧ Below w'.heap.size w' wr) := by
        have h1 := HV.out
        rw [e] at h1 ⊢
        exact h1
      clear e
      go_wp2
      go_ret
      exact ⟨_, rfl, HRES.out.1, HRES.out.2⟩
theorem late_nil (now : Int) (w : World) : Calls Try.prog 18 #[.pointer none, .int .i64 now] w fun r w' => r = .returned (.slice none 0 0) ∧ w' = w := by
  have HM := Lib.hid (many_nil w)
  go_enter Try.func18, Try.ntmps18
  go_wp2_with fail
  refine HM.out.mono ?_
  rintro r w' ⟨rfl, rfl⟩
  go_wp2_with fail
  go_loop [5, 10] (fun o i => o = .slice none 0 0 ∧ i = .int .i64 0) (fun _ i => 0)
  case atStart => exact ⟨rfl, rfl⟩
  case round =>
    obtain ⟨rfl, rfl⟩ := hrel
    go_wp2
    go_ret
    exact ⟨rfl, rfl⟩
set_option maxHeartbeats 4000000 in
theorem pawake (w : World) : Calls Try.prog 12 #[] w fun r w' => r = .returned (.bool true) ∧ Below w.heap.size w w' := by
  have HN := Lib.hid (new_any 2 5 2 w (by omega))
  go_enter Try.func12, Try.ntmps12
  go_wp2_with fail
  refine HN.out.mono ?_
  rintro r w1 ⟨P, I, rfl, h1, hb1⟩
  have H1 : Hid (Po w1 w.heap.size P I 5 [(0, 0, 0), (0, 0, 0)] ∧ Below w.heap.size w w1) := ⟨h1, hb1⟩
  clear h1 hb1
  have C1 : Hid (Calls Try.prog 14 #[.pointer (some ⟨P, 0, none⟩), .int .u32 2, .int .i64 0] w1 fun r w' => r = .returned (.tuple #[.int .u32 0, .int .i64 0]) ∧ Po w' w.heap.size P I 5 [(0, 0, 0), (1, 0, 0)] ∧ Below w.heap.size w w') :=
    (hello_ok 1 0 0 0 0 w1 H1.out.1 rfl (by decide)).mono fun r w' ⟨e, h, g⟩ => ⟨e, h, H1.out.2.trans (g.below h.2.1 H1.out.2.size)⟩
  go_wp2_with fail
  refine C1.out.mono ?_
  rintro r w2 ⟨rfl, h2, hb2⟩
  have H2 := Lib.hid (And.intro h2 hb2)
  have C2 : Hid (Calls Try.prog 21 #[.pointer (some ⟨P, 0, none⟩)] w2 fun r w' => r = .returned (.int .u32 2) ∧ w' = w2) := least_any w2 h2
  clear h2 hb2
  go_wp2_with fail
  refine C2.out.mono ?_
  rintro r w' ⟨rfl, rfl⟩
  have C3 : Hid (Calls Try.prog 15 #[.pointer (some ⟨P, 0, none⟩), .int .u32 2, .int .u32 9] w' fun r w'' => r = .returned (.int .i64 0) ∧ Po w'' w.heap.size P I 5 [(0, 0, 0), (2, 9, 0)] ∧ Below w.heap.size w w'') :=
    (hold_ok 1 1 0 0 9 w' H2.out.1 rfl rfl (by decide)).mono fun r w' ⟨e, h, g⟩ => ⟨e, h, H2.out.2.trans (g.below h.2.1 H2.out.2.size)⟩
  go_wp2_with fail
  refine C3.out.mono ?_
  rintro r w3 ⟨rfl, h3, hb3⟩
  have H3 := Lib.hid (And.intro h3 hb3)
  have C4 : Hid (Calls Try.prog 21 #[.pointer (some ⟨P, 0, none⟩)] w3 fun r w' => r = .returned (.int .u32 0) ∧ w' = w3) := least_any w3 h3
  clear h3 hb3
  go_wp2_with fail
  refine C4.out.mono ?_
  rintro r w'' ⟨rfl, rfl⟩
  have C5 : Hid (Calls Try.prog 16 #[.pointer (some ⟨P, 0, none⟩), .int .u32 2, .int .i64 0] w'' fun r w' => r = .returned (.int .i64 0) ∧ Po w' w.heap.size P I 5 [(0, 0, 0), (3, 9, 0)] ∧ Below w.heap.size w w') :=
    (start_ok 1 2 9 0 0 w'' H3.out.1 rfl (by decide)).mono fun r w' ⟨e, h, g⟩ => ⟨e, h, H3.out.2.trans (g.below h.2.1 H3.out.2.size)⟩
  go_wp2_with fail
  refine C5.out.mono ?_
  rintro r w4 ⟨rfl, h4, hb4⟩
  have H4 := Lib.hid (And.intro h4 hb4)
  clear h4 hb4
  have C6 : Hid (Calls Try.prog 23 #[.pointer (some ⟨P, 0, none⟩), .int .u32 2, .int .i64 0] w4 fun r w' => r = .returned (.int .i64 0) ∧ Po w' w.heap.size P I 5 [(0, 0, 0), (4, 9, 0)] ∧ Below w.heap.size w w') :=
    (up_ok 1 3 9 0 0 w4 H4.out.1 rfl (by decide)).mono fun r w' ⟨e, h, g⟩ => ⟨e, h, H4.out.2.trans (g.below h.2.1 H4.out.2.size)⟩
  go_wp2_with fail
  refine C6.out.mono ?_
  rintro r w5 ⟨rfl, h5, hb5⟩
  have H5 := Lib.hid (And.intro h5 hb5)
  clear h5 hb5
  have C7 : Hid (Calls Try.prog 25 #[.pointer (some ⟨P, 0, none⟩), .int .u32 2] w5 fun r w' => r = .returned (.int .i64 0) ∧ Po w' w.heap.size P I 5 [(0, 0, 0), (5, 0, 0)] ∧ Below w.heap.size w w') :=
    (drain_ok 1 4 9 0 w5 H5.out.1 rfl (by decide)).mono fun r w' ⟨e, h, g⟩ => ⟨e, h, H5.out.2.trans (g.below h.2.1 H5.out.2.size)⟩
  go_wp2_with fail
  refine C7.out.mono ?_
  rintro r w6 ⟨rfl, h6, hb6⟩
  have H6 := Lib.hid (And.intro h6 hb6)
  clear h6 hb6
  have C8 : Hid (Calls Try.prog 26 #[.pointer (some ⟨P, 0, none⟩), .int .u32 2, .int .i64 0] w6 fun r w' => r = .returned (.int .i64 0) ∧ Po w' w.heap.size P I 5 [(0, 0, 0), (1, 0, 0)] ∧ Below w.heap.size w w') :=
    (freed_ok 1 5 0 0 0 w6 H6.out.1 rfl (by decide)).mono fun r w' ⟨e, h, g⟩ => ⟨e, h, H6.out.2.trans (g.below h.2.1 H6.out.2.size)⟩
  go_wp2_with fail
  refine C8.out.mono ?_
  rintro r w7 ⟨rfl, h7, hb7⟩
  have H7 := Lib.hid hb7
  have C9 : Hid (Calls Try.prog 21 #[.pointer (some ⟨P, 0, none⟩)] w7 fun r w' => r = .returned (.int .u32 2) ∧ w' = w7) := least_any w7 h7
  clear h7 hb7
  go_wp2_with fail
  refine C9.out.mono ?_
  rintro r w8 ⟨rfl, rfl⟩
  go_wp2
  go_ret
  exact ⟨rfl, H7.out⟩
end Go.Proofs.Ytddjbkaofodmlaa
