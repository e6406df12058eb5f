/- Timer: TimerOrder's walk. -/
import Derived.Test.YtaoejkbockcneaaTC
namespace Go.Proofs.Ytaoejkbockcneaa
open Go.RowKit Go.ChangeShapes
set_option maxRecDepth 20000

theorem off_cons {L : List It} (hd : Dis L) {e : It} (he : e ∈ L) : L.Perm (e :: offN e.2.1 e.2.2.1 L) := by
  have h1 := List.perm_cons_erase he
  have h2 := off_perm (k := e.2.1) (x := e.2.2.1) (hp' := L.erase e) hd ((List.perm_append_comm).trans h1.symm) ((nm_iff _ _ _).2 ⟨rfl, rfl⟩)
  exact h1.trans (h2.cons e)
def dueP (now : Int) (e : It) : Bool := decide (e.2.2.2.1 ≤ now)
theorem FL.off {f : Nat → Int} {tms : List Int} {k : Nat} {L : List It} (h : FL f tms k L) (c : Int) : offN c k L = L := off_none fun e he => by
  obtain ⟨i, hi, hh⟩ := h.mem he
  cases hq : nm c k e
  · rfl
  · rw [nm_iff, hh] at hq
    simp at hq
    omega
/-- What is left of the first N times. -/
def Lft (tms : List Int) (N : Nat) (L : List It) : Prop := ∀ e ∈ L, ∃ (i : Nat) (x : Int), i < N ∧ tms[i]? = some x ∧ e.2 = (((i % 3 : Nat) : Int), i, x, i)
set_option linter.unusedSimpArgs false in
set_option maxHeartbeats 20000000 in
theorem torder_walk (u : Option Addr × Nat) (tms : List Int) (now : Int) (w : World) (hs : A64 w w.heap.size u.1 tms) (hl : tms.length ≤ 9223372036854775807) (_hb : ∀ x ∈ tms, -9223372036854775808 ≤ x ∧ x ≤ 9223372036854775807) :
    Calls Try.prog 5 #[.slice u.1 tms.length u.2, .int .i64 now] w fun r w' => r = .returned (.bool true) ∧ Below w.heap.size w w' := by
  obtain ⟨E, ec⟩ := u
  obtain ⟨N, hN⟩ : ∃ N, N = tms.length := ⟨_, rfl⟩
  simp only at hs ⊢
  rw [← hN] at hl ⊢
  have HA := Lib.hid hs
  have HN := Lib.hid hN
  clear hs hN
  by_cases h1 : 40 < N
  · have t : decide ((N : Int) > 40) = true := by rw [decide_eq_true_iff]; omega
    go_enter Try.func5, Try.ntmps5
    go_wp2
    go_ret
    exact ⟨rfl, Below.refl _ _⟩
  have t : decide ((N : Int) > 40) = false := by rw [decide_eq_false_iff_not]; omega
  have HNEW := Lib.hid (new_any w.heap.size w (Nat.le_refl _))
  obtain ⟨Q, hQ⟩ : ∃ Q, Q = w.heap.size + 1 := ⟨_, rfl⟩
  rw [← hQ] at HNEW
  clear hQ
  go_enter Try.func5, Try.ntmps5
  go_wp2_with fail
  refine HNEW.out.mono ?_
  rintro r w1 ⟨rfl, hI1, hb1⟩
  have HI1 := Lib.hid hI1
  have HC1 : Hid (Ch 2 w.heap.size w w1) := Ch.of_below (Nat.le_refl _) hb1
  clear hI1 hb1 HNEW t
  go_wp2_with fail
  go_loopw [6, 7] (fun du u wr => ∃ (k d : Nat) (L : List It), k ≤ N ∧ d ≤ k ∧ du = .int .i64 (d : Int) ∧ u = .int .i64 (k : Int) ∧ Hid (IsT wr w.heap.size Q w.heap.size k L) ∧ Hid (FL (fun i => ((i % 3 : Nat) : Int)) tms k L) ∧ Hid (L.countP (dueP now) = d) ∧ Hid (Ch 2 w.heap.size w wr)) (fun _ u _ => N - (intOf u).toNat)
  case atStart => exact ⟨0, 0, [], by omega, by omega, rfl, rfl, HI1, rfl, rfl, HC1⟩
  case round =>
    obtain ⟨k, d, L, hk, hd, rfl, rfl, HI, HF, HD, HC⟩ := hrel
    by_cases hlt : k < N
    · obtain ⟨t, ht⟩ : ∃ t, tms[k]? = some t := ⟨tms[k]'(by rw [← HN.out]; exact hlt), List.getElem?_eq_getElem _⟩
      obtain ⟨b1, o1, rfl, hb1, ha1⟩ := HA.out (by have := HN.out; omega)
      have d0 := (HC.out.below.cell (p := ⟨b1, _, none⟩) hb1).trans (ha1 k t ht)
      have hw32 : IntKind.u32.wrap (k : Int) = (k : Int) := by rw [IntKind.wrap_u32]; omega
      have htm : Int.tmod (k : Int) 3 = ((k % 3 : Nat) : Int) := rfl
      have HSET := Lib.hid (set_any ((k % 3 : Nat) : Int) k t wr HI.out (by rw [HF.out.len]; omega) (by omega) (wfn_mk (by omega) (by omega) (by omega)))
      have HTK := Lib.hid ht
      have HX : Hid (∀ W, Ch 2 w.heap.size w W → W.cell? ⟨b1, o1 + k, none⟩ = some (.int .i64 t)) := fun W hW => (hW.below.cell (p := ⟨b1, _, none⟩) hb1).trans (ha1 k t ht)
      clear ht ha1 hb1
      go_wp2_with fail
      refine HSET.out.mono ?_
      rintro r w2 ⟨rfl, g, hI2, hC2⟩
      have HF2 : Hid (FL (fun i => ((i % 3 : Nat) : Int)) tms (k + 1) (offN ((k % 3 : Nat) : Int) k L ++ [(g, ((k % 3 : Nat) : Int), k, t, k)])) := HF.out.step g _ rfl HTK.out
      have HI2 := Lib.hid hI2
      have HC2 := Lib.hid (HC.out.trans hC2)
      have hcnt : (offN ((k % 3 : Nat) : Int) k L ++ [(g, ((k % 3 : Nat) : Int), k, t, k)]).countP (dueP now) = d + (if t ≤ now then 1 else 0) := by
        rw [HF.out.off, List.countP_append, HD.out]
        by_cases h : t ≤ now <;> simp [dueP, h]
      have HCN := Lib.hid hcnt
      have d1 := HX.out w2 HC2.out
      clear hI2 hC2 hcnt d0
      by_cases hle : t ≤ now
      · have HCN2 : Hid ((offN ((k % 3 : Nat) : Int) k L ++ [(g, ((k % 3 : Nat) : Int), k, t, k)]).countP (dueP now) = d + 1) := by simp only [Hid]; rw [HCN.out, if_pos hle]
        go_wp2
        go_roundw
        case rel => exact ⟨k + 1, d + 1, _, by omega, by omega, by go_num, by go_num, HI2, HF2, HCN2, HC2⟩
        case measure => simp [intOf] <;> omega
      · have HCN2 : Hid ((offN ((k % 3 : Nat) : Int) k L ++ [(g, ((k % 3 : Nat) : Int), k, t, k)]).countP (dueP now) = d) := by simp only [Hid]; rw [HCN.out, if_neg hle]; rfl
        go_wp2
        go_roundw
        case rel => exact ⟨k + 1, d, _, by omega, by omega, rfl, by go_num, HI2, HF2, HCN2, HC2⟩
        case measure => simp [intOf] <;> omega
    · have hkn : k = N := by omega
      subst hkn
      obtain ⟨T8, hT8⟩ : ∃ T8, T8 = wr.heap.size := ⟨_, rfl⟩
      obtain ⟨w2, hw2⟩ : ∃ w2, w2 = wr.alloc (.cells #[.int .i64 0, .int .u32 0, .int .i64 0] 35) := ⟨_, rfl⟩
      have hb2 : Below wr.heap.size wr w2 := by rw [hw2]; exact (Below.refl _ _).alloc (Nat.le_refl _) _
      have hg2 : w2.heap[T8]? = some (.cells #[.int .i64 0, .int .u32 0, .int .i64 0] 35 (0, 0)) := by rw [hw2, hT8]; exact heap_alloc_new wr _
      have HI2 := Lib.hid (HI.out.after hb2)
      have HC2 : Hid (Ch 2 w.heap.size w w2) := HC.out.trans (Ch.of_below HI.out.lo hb2)
      have HG2 := Lib.hid hg2
      have HT8B : Hid (w.heap.size ≤ T8) := by rw [Hid, hT8]; exact HC.out.size
      have HLF : Hid (Lft tms k L) := fun e he => by
        obtain ⟨i, hi, hh⟩ := HF.out.mem he
        have hx : tms[i]? = some (tms[i]'(by rw [← HN.out]; exact hi)) := List.getElem?_eq_getElem _
        exact ⟨i, _, hi, hx, by rw [hh]; simp [List.getD, hx]⟩
      have HLL : Hid (L.length = k) := HF.out.len
      have H2 := Lib.hid hw2
      clear hb2 hg2 hw2
      go_upto_region 12 with (fail)
      rw [← H2.out, ← hT8]
      clear hT8
      obtain ⟨N, hNk⟩ : ∃ N, N = k := ⟨_, rfl⟩
      rw [← hNk] at HI2 HLF HLL HN
      rw [← hNk]
      have HNK := Lib.hid hNk
      have hN40 : N ≤ 40 := by omega
      have hdN : d ≤ N := by omega
      clear hNk
      go_wp2_with fail
      go_loopw [9, 10] (fun s u wr => ∃ (j : Nat) (b : Bool) (L3 : List It) (lk lx la : Int), j ≤ d ∧ s = .bool b ∧ u = .int .i64 (j : Int) ∧ Hid (L3.length + j = N ∧ L3.countP (dueP now) + j = d) ∧ Hid (IsT wr w.heap.size Q w.heap.size N L3) ∧ Hid (Ch 2 w.heap.size w wr) ∧ Hid (Lft tms N L3) ∧ Hid (wr.heap[T8]? = some (.cells #[.int .i64 lk, .int .u32 lx, .int .i64 la] 35 (0, 0))) ∧ Hid (b = true → ∀ y ∈ L3, la < y.2.2.2.1 ∨ (la = y.2.2.2.1 ∧ lx < (y.2.2.1 : Int)))) (fun _ u _ => d - (intOf u).toNat)
      case atStart => exact ⟨0, false, L, 0, 0, 0, by omega, rfl, rfl, ⟨by rw [HLL.out]; rfl, by rw [HD.out]; rfl⟩, HI2, HC2, HLF, HG2, fun h => by cases h⟩
      case round =>
        obtain ⟨j, b, L3, lk, lx, la, hj, rfl, rfl, HL3, HI3, HC3, HLF3, HG3, HS3⟩ := hrel
        by_cases hlt2 : j < d
        · go_wp2_with fail
          refine (due_any now wr HI3.out (by have := HL3.out.1; omega)).mono ?_
          rintro r w4 ⟨t, b4, L4, rfl, hcase, hI4, hC4⟩
          obtain ⟨e, he, rfl, rfl, rfl, hmin, hen⟩ : ∃ e ∈ L3, b4 = true ∧ t = tV e.2.1 e.2.2.1 e.2.2.2.1 ∧ L4 = offN e.2.1 e.2.2.1 L3 ∧ (∀ y ∈ L3, lt y e = false) ∧ e.2.2.2.1 ≤ now := by
            rcases hcase with ⟨_, _, _, hlate⟩ | ⟨hb, e, he, hmin, hen, ht, hL⟩
            · have h0 : L3.countP (dueP now) = 0 := List.countP_eq_zero.2 fun y hy => by
                have := hlate y hy
                simp [dueP]
                omega
              have := HL3.out.2
              omega
            · exact ⟨e, he, hb, ht, hL, hmin, hen⟩
          obtain ⟨i, ea, hiN, hti, hei⟩ := HLF3.out e he
          obtain ⟨kd, hkd⟩ : ∃ kd : Int, kd = ((i % 3 : Nat) : Int) := ⟨_, rfl⟩
          rw [← hkd] at hei
          have HKD := Lib.hid hkd
          clear hkd
          have hcons := off_cons HI3.out.dis he
          have hea1 : e.2.1 = kd := by rw [hei]
          have hea2 : e.2.2.1 = i := by rw [hei]
          have hea3 : e.2.2.2.1 = ea := by rw [hei]
          have hea4 : e.2.2.2.2 = i := by rw [hei]
          rw [hea1, hea2] at hI4 hcons
          have HL4 : Hid ((offN kd i L3).length + (j + 1) = N ∧ (offN kd i L3).countP (dueP now) + (j + 1) = d) := by
            have c1 := hcons.length_eq
            have c2 := hcons.countP_eq (dueP now)
            have hpe : dueP now e = true := by simp [dueP, hea3]; omega
            rw [List.countP_cons_of_pos hpe] at c2
            rw [List.length_cons] at c1
            have := HL3.out
            exact ⟨by omega, by omega⟩
          have HLF4 : Hid (Lft tms N (offN kd i L3)) := fun y hy => HLF3.out y (off_mem.1 hy).1
          have HS4 : Hid (∀ y ∈ offN kd i L3, ea < y.2.2.2.1 ∨ (ea = y.2.2.2.1 ∧ (i : Int) < (y.2.2.1 : Int))) := fun y hy => by
            have hy2 := off_mem.1 hy
            have h1 := hmin y hy2.1
            obtain ⟨iy, xy, _, _, hyi⟩ := HLF3.out y hy2.1
            rw [lt_iff', hea3, hea4] at h1
            have hne : ¬ iy = i := fun h => hy2.2 ⟨by rw [hyi, h]; exact HKD.out.symm, by rw [hyi, h]⟩
            rw [hyi] at h1 ⊢
            simp only at h1 ⊢
            omega
          have HOLD : Hid (b = true → la < ea ∨ (la = ea ∧ lx < (i : Int))) := fun h => by
            have := HS3.out h e he
            rw [hea3, hea2] at this
            exact this
          have HI4 := Lib.hid hI4
          have HC4 := Lib.hid (HC3.out.trans hC4)
          obtain ⟨G, hG⟩ : ∃ G, G = w4.heap.size := ⟨_, rfl⟩
          obtain ⟨w5, hw5⟩ : ∃ w5, w5 = w4.alloc (.cells #[.int .i64 kd, .int .u32 (i : Int), .int .i64 ea] 35) := ⟨_, rfl⟩
          have hb5 : Below w4.heap.size w4 w5 := by rw [hw5]; exact (Below.refl _ _).alloc (Nat.le_refl _) _
          have hx5 : w5.heap[G]? = some (.cells #[.int .i64 kd, .int .u32 (i : Int), .int .i64 ea] 35 (0, 0)) := by rw [hw5, hG]; exact heap_alloc_new w4 _
          have hk4 := hC4.kept T8 _ HG3.out (by simp [okT])
          have hk5 := (hb5.block T8 (lt_of_block hk4)).trans hk4
          have HI5 := Lib.hid (HI4.out.after hb5)
          have HC5 : Hid (Ch 2 w.heap.size w w5) := HC4.out.trans (Ch.of_below HI4.out.lo hb5)
          have HG5 := Lib.hid (And.intro hx5 hk5)
          obtain ⟨b1, o1, rfl, hb1, ha1⟩ := HA.out (by have := HN.out; omega)
          have hd0 := (HC5.out.below.cell (p := ⟨b1, _, none⟩) hb1).trans (ha1 i ea hti)
          have HX5 : Hid (w5.cell? ⟨G, 0, none⟩ = some (.int .i64 kd) ∧ w5.cell? ⟨G, 1, none⟩ = some (.int .u32 (i : Int)) ∧ w5.cell? ⟨G, 2, none⟩ = some (.int .i64 ea) ∧ w5.cell? ⟨b1, o1 + i, none⟩ = some (.int .i64 ea)) := ⟨cell_of_row w5 G 0 _ _ _ hx5, cell_of_row w5 G 1 _ _ _ hx5, cell_of_row w5 G 2 _ _ _ hx5, hd0⟩
          have H5 := Lib.hid hw5
          rw [hea3] at hen
          have htm : Int.tmod (i : Int) 3 = kd := by rw [HKD.out]; rfl
          have htm2 : (i : Int) % 3 = kd := by rw [HKD.out]; rfl
          have hwi : IntKind.i64.wrap (i : Int) = (i : Int) := by rw [IntKind.wrap_i64]; omega
          have hNb : ¬ (i : Int) ≥ (N : Int) := by omega
          have hnow : ¬ ea > now := by omega
          rw [hea1, hea2, hea3]
          have HEA := Lib.hid (And.intro hea1 (And.intro hea2 hea3))
          clear hI4 hC4 hcase he hmin hb5 hx5 hw5 hk4 hk5 hti hei hcons hea1 hea2 hea3 hea4 ha1 hb1 hd0
          go_upto_region 16 with (fail)
          rw [← H5.out, ← hG]
          clear hG
          have HSW : Hid ((fun W : World => W.cell? ⟨G, 0, none⟩ = some (.int .i64 kd) ∧ W.cell? ⟨G, 1, none⟩ = some (.int .u32 (i : Int)) ∧ W.cell? ⟨G, 2, none⟩ = some (.int .i64 ea) ∧ W.cell? ⟨b1, o1 + i, none⟩ = some (.int .i64 ea)) w5.drew) := ⟨HX5.out.1, HX5.out.2.1, HX5.out.2.2.1, HX5.out.2.2.2⟩
          refine wp_region_held_drew (S := fun W : World => W.cell? ⟨G, 0, none⟩ = some (.int .i64 kd) ∧ W.cell? ⟨G, 1, none⟩ = some (.int .u32 (i : Int)) ∧ W.cell? ⟨G, 2, none⟩ = some (.int .i64 ea) ∧ W.cell? ⟨b1, o1 + i, none⟩ = some (.int .i64 ea)) (by kernel_rfl) HSW.out (fun hHeld => ?_)
          obtain ⟨w6, hw6⟩ : ∃ w6, w6 = w5.drew := ⟨_, rfl⟩
          rw [← hw6] at hHeld ⊢
          have HI6 : Hid (IsT w6 w.heap.size Q w.heap.size N (offN kd i L3)) := by rw [hw6]; exact HI5.out.after (Below.refl _ _).drew
          have HC6 : Hid (Ch 2 w.heap.size w w6) := by rw [hw6]; exact HC5.out.drew
          have HG6 : Hid (w6.heap[G]? = some (.cells #[.int .i64 kd, .int .u32 (i : Int), .int .i64 ea] 35 (0, 0)) ∧ w6.heap[T8]? = some (.cells #[.int .i64 lk, .int .u32 lx, .int .i64 la] 35 (0, 0))) := by rw [hw6]; exact HG5.out
          clear hw6
          refine wpAnyH_take (i := 0) (oi := ?oi0) (v := ?v0) ?hi0 ?hs0 ?hf0 ?hr0 ?hQ0 ?hy0 ?hS0 ?h0
          case hi0 => exact (by simp only [List.getElem?_toArray, List.getElem?_cons_zero]; rfl)
          case hs0 => kernel_rfl
          case hf0 => kernel_rfl
          case hr0 => kernel_rfl
          case hQ0 => exact fun _ _ _ h => h
          case hy0 =>
            refine Or.inl ⟨rfl, ?_⟩
            intro W hSw
            obtain ⟨y0, y1, y2, y3⟩ := hSw
            go_simp
            try with_reducible rfl
          case hS0 => assumption
          try simp only [Act.put, List.setIfInBounds_toArray, List.set_cons_zero, List.set_cons_succ]
          refine wpAnyH_take (i := 1) (oi := ?oi1) (v := ?v1) ?hi1 ?hs1 ?hf1 ?hr1 ?hQ1 ?hy1 ?hS1 ?h1
          case hi1 => exact (by simp only [List.getElem?_toArray, List.getElem?_cons_succ, List.getElem?_cons_zero]; rfl)
          case hs1 => kernel_rfl
          case hf1 => kernel_rfl
          case hr1 => kernel_rfl
          case hQ1 => exact fun _ _ _ h => h
          case hy1 =>
            refine Or.inl ⟨rfl, ?_⟩
            intro W hSw
            obtain ⟨y0, y1, y2, y3⟩ := hSw
            go_simp
            try with_reducible rfl
          case hS1 => assumption
          try simp only [Act.put, List.setIfInBounds_toArray, List.set_cons_zero, List.set_cons_succ]
          refine wpAnyH_take (i := 2) (oi := ?oi2) (v := ?v2) ?hi2 ?hs2 ?hf2 ?hr2 ?hQ2 ?hy2 ?hS2 ?h2
          case hi2 => exact (by simp only [List.getElem?_toArray, List.getElem?_cons_succ, List.getElem?_cons_zero]; rfl)
          case hs2 => kernel_rfl
          case hf2 => kernel_rfl
          case hr2 => kernel_rfl
          case hQ2 => exact fun _ _ _ h => h
          case hy2 =>
            refine Or.inl ⟨rfl, ?_⟩
            intro W hSw
            obtain ⟨y0, y1, y2, y3⟩ := hSw
            go_simp
            try with_reducible rfl
          case hS2 => assumption
          try simp only [Act.put, List.setIfInBounds_toArray, List.set_cons_zero, List.set_cons_succ]
          refine wpAnyH_take (i := 3) (oi := ?oi3) (v := ?v3) ?hi3 ?hs3 ?hf3 ?hr3 ?hQ3 ?hy3 ?hS3 ?h3
          case hi3 => exact (by simp only [List.getElem?_toArray, List.getElem?_cons_succ, List.getElem?_cons_zero]; rfl)
          case hs3 => kernel_rfl
          case hf3 => kernel_rfl
          case hr3 => kernel_rfl
          case hQ3 => exact fun _ _ _ h => h
          case hy3 =>
            refine Or.inl ⟨rfl, ?_⟩
            intro W hSw
            obtain ⟨y0, y1, y2, y3⟩ := hSw
            go_simp
            try with_reducible rfl
          case hS3 => assumption
          try simp only [Act.put, List.setIfInBounds_toArray, List.set_cons_zero, List.set_cons_succ]
          refine wpAnyH_take (i := 4) (oi := ?oi4) (v := ?v4) ?hi4 ?hs4 ?hf4 ?hr4 ?hQ4 ?hy4 ?hS4 ?h4
          case hi4 => exact (by simp only [List.getElem?_toArray, List.getElem?_cons_succ, List.getElem?_cons_zero]; rfl)
          case hs4 => kernel_rfl
          case hf4 => kernel_rfl
          case hr4 => kernel_rfl
          case hQ4 => exact fun _ _ _ h => h
          case hy4 =>
            refine Or.inl ⟨rfl, ?_⟩
            intro W hSw
            obtain ⟨y0, y1, y2, y3⟩ := hSw
            go_simp
            try with_reducible rfl
          case hS4 => assumption
          try simp only [Act.put, List.setIfInBounds_toArray, List.set_cons_zero, List.set_cons_succ]
          refine wpAnyH_take (i := 5) (oi := ?oi5) (v := ?v5) ?hi5 ?hs5 ?hf5 ?hr5 ?hQ5 ?hy5 ?hS5 ?h5
          case hi5 => exact (by simp only [List.getElem?_toArray, List.getElem?_cons_succ, List.getElem?_cons_zero]; rfl)
          case hs5 => kernel_rfl
          case hf5 => kernel_rfl
          case hr5 => kernel_rfl
          case hQ5 => exact fun _ _ _ h => h
          case hy5 =>
            refine Or.inl ⟨rfl, ?_⟩
            intro W hSw
            obtain ⟨y0, y1, y2, y3⟩ := hSw
            go_simp
            try with_reducible rfl
          case hS5 => assumption
          try simp only [Act.put, List.setIfInBounds_toArray, List.set_cons_zero, List.set_cons_succ]
          refine wpAnyH_take (i := 6) (oi := ?oi6) (v := (.bool false)) ?hi6 ?hs6 ?hf6 ?hr6 ?hQ6 ?hy6 ?hS6 ?h6
          case hi6 => exact (by simp only [List.getElem?_toArray, List.getElem?_cons_succ, List.getElem?_cons_zero]; rfl)
          case hs6 => kernel_rfl
          case hf6 => kernel_rfl
          case hr6 => kernel_rfl
          case hQ6 => exact fun _ _ _ h => h
          case hy6 =>
            refine Or.inl ⟨rfl, ?_⟩
            intro W hSw
            obtain ⟨y0, y1, y2, y3⟩ := hSw
            go_simp
            all_goals first | with_reducible rfl | (simp; done) | (simp [htm]; done) | (simp [htm2]; done) | (simp; omega) | omega
          case hS6 => assumption
          try simp only [Act.put, List.setIfInBounds_toArray, List.set_cons_zero, List.set_cons_succ]
          refine wpAnyH_take (i := 7) (oi := ?oi7) (v := ?v7) ?hi7 ?hs7 ?hf7 ?hr7 ?hQ7 ?hy7 ?hS7 ?h7
          case hi7 => exact (by simp only [List.getElem?_toArray, List.getElem?_cons_succ, List.getElem?_cons_zero]; rfl)
          case hs7 => kernel_rfl
          case hf7 => kernel_rfl
          case hr7 => kernel_rfl
          case hQ7 => exact fun _ _ _ h => h
          case hy7 =>
            refine Or.inl ⟨rfl, ?_⟩
            intro W hSw
            obtain ⟨y0, y1, y2, y3⟩ := hSw
            go_simp
            try with_reducible rfl
          case hS7 => assumption
          try simp only [Act.put, List.setIfInBounds_toArray, List.set_cons_zero, List.set_cons_succ]
          refine wpAnyH_take (i := 8) (oi := ?oi8) (v := ?v8) ?hi8 ?hs8 ?hf8 ?hr8 ?hQ8 ?hy8 ?hS8 ?h8
          case hi8 => exact (by simp only [List.getElem?_toArray, List.getElem?_cons_succ, List.getElem?_cons_zero]; rfl)
          case hs8 => kernel_rfl
          case hf8 => kernel_rfl
          case hr8 => kernel_rfl
          case hQ8 => exact fun _ _ _ h => h
          case hy8 =>
            refine Or.inl ⟨rfl, ?_⟩
            intro W hSw
            obtain ⟨y0, y1, y2, y3⟩ := hSw
            go_simp
            try with_reducible rfl
          case hS8 => assumption
          try simp only [Act.put, List.setIfInBounds_toArray, List.set_cons_zero, List.set_cons_succ]
          refine wpAnyH_take (i := 9) (oi := ?oi9) (v := ?v9) ?hi9 ?hs9 ?hf9 ?hr9 ?hQ9 ?hy9 ?hS9 ?h9
          case hi9 => exact (by simp only [List.getElem?_toArray, List.getElem?_cons_succ, List.getElem?_cons_zero]; rfl)
          case hs9 => kernel_rfl
          case hf9 => kernel_rfl
          case hr9 => kernel_rfl
          case hQ9 => exact fun _ _ _ h => h
          case hy9 =>
            refine Or.inl ⟨rfl, ?_⟩
            intro W hSw
            obtain ⟨y0, y1, y2, y3⟩ := hSw
            go_simp
            try with_reducible rfl
          case hS9 => assumption
          try simp only [Act.put, List.setIfInBounds_toArray, List.set_cons_zero, List.set_cons_succ]
          refine wpAnyH_take (i := 10) (oi := ?oi10) (v := ?v10) ?hi10 ?hs10 ?hf10 ?hr10 ?hQ10 ?hy10 ?hS10 ?h10
          case hi10 => exact (by simp only [List.getElem?_toArray, List.getElem?_cons_succ, List.getElem?_cons_zero]; rfl)
          case hs10 => kernel_rfl
          case hf10 => kernel_rfl
          case hr10 => kernel_rfl
          case hQ10 => exact fun _ _ _ h => h
          case hy10 =>
            refine Or.inl ⟨rfl, ?_⟩
            intro W hSw
            obtain ⟨y0, y1, y2, y3⟩ := hSw
            go_simp
            try with_reducible rfl
          case hS10 => assumption
          try simp only [Act.put, List.setIfInBounds_toArray, List.set_cons_zero, List.set_cons_succ]
          refine wpAnyH_take (i := 11) (oi := ?oi11) (v := (.int .i64 (i : Int))) ?hi11 ?hs11 ?hf11 ?hr11 ?hQ11 ?hy11 ?hS11 ?h11
          case hi11 => exact (by simp only [List.getElem?_toArray, List.getElem?_cons_succ, List.getElem?_cons_zero]; rfl)
          case hs11 => kernel_rfl
          case hf11 => kernel_rfl
          case hr11 => kernel_rfl
          case hQ11 => exact fun _ _ _ h => h
          case hy11 =>
            refine Or.inl ⟨rfl, ?_⟩
            intro W hSw
            obtain ⟨y0, y1, y2, y3⟩ := hSw
            go_simp
            all_goals first | with_reducible rfl | (simp; done) | (simp [htm]; done) | (simp [htm2]; done) | (simp; omega) | omega
          case hS11 => assumption
          try simp only [Act.put, List.setIfInBounds_toArray, List.set_cons_zero, List.set_cons_succ]
          refine wpAnyH_take (i := 12) (oi := ?oi12) (v := ?v12) ?hi12 ?hs12 ?hf12 ?hr12 ?hQ12 ?hy12 ?hS12 ?h12
          case hi12 => exact (by simp only [List.getElem?_toArray, List.getElem?_cons_succ, List.getElem?_cons_zero]; rfl)
          case hs12 => kernel_rfl
          case hf12 => kernel_rfl
          case hr12 => kernel_rfl
          case hQ12 => exact fun _ _ _ h => h
          case hy12 =>
            refine Or.inl ⟨rfl, ?_⟩
            intro W hSw
            obtain ⟨y0, y1, y2, y3⟩ := hSw
            go_simp
            try with_reducible rfl
          case hS12 => assumption
          try simp only [Act.put, List.setIfInBounds_toArray, List.set_cons_zero, List.set_cons_succ]
          refine wpAnyH_take (i := 13) (oi := ?oi13) (v := ?v13) ?hi13 ?hs13 ?hf13 ?hr13 ?hQ13 ?hy13 ?hS13 ?h13
          case hi13 => exact (by simp only [List.getElem?_toArray, List.getElem?_cons_succ, List.getElem?_cons_zero]; rfl)
          case hs13 => kernel_rfl
          case hf13 => kernel_rfl
          case hr13 => kernel_rfl
          case hQ13 => exact fun _ _ _ h => h
          case hy13 =>
            refine Or.inl ⟨rfl, ?_⟩
            intro W hSw
            obtain ⟨y0, y1, y2, y3⟩ := hSw
            go_simp
            try with_reducible rfl
          case hS13 => assumption
          try simp only [Act.put, List.setIfInBounds_toArray, List.set_cons_zero, List.set_cons_succ]
          refine wpAnyH_take (i := 14) (oi := ?oi14) (v := (.bool false)) ?hi14 ?hs14 ?hf14 ?hr14 ?hQ14 ?hy14 ?hS14 ?h14
          case hi14 => exact (by simp only [List.getElem?_toArray, List.getElem?_cons_succ, List.getElem?_cons_zero]; rfl)
          case hs14 => kernel_rfl
          case hf14 => kernel_rfl
          case hr14 => kernel_rfl
          case hQ14 => exact fun _ _ _ h => h
          case hy14 =>
            refine Or.inl ⟨rfl, ?_⟩
            intro W hSw
            obtain ⟨y0, y1, y2, y3⟩ := hSw
            go_simp
            all_goals first | with_reducible rfl | (simp; done) | (simp [htm]; done) | (simp [htm2]; done) | (simp; omega) | omega
          case hS14 => assumption
          try simp only [Act.put, List.setIfInBounds_toArray, List.set_cons_zero, List.set_cons_succ]
          refine wpAnyH_take (i := 15) (oi := ?oi15) (v := ?v15) ?hi15 ?hs15 ?hf15 ?hr15 ?hQ15 ?hy15 ?hS15 ?h15
          case hi15 => exact (by simp only [List.getElem?_toArray, List.getElem?_cons_succ, List.getElem?_cons_zero]; rfl)
          case hs15 => kernel_rfl
          case hf15 => kernel_rfl
          case hr15 => kernel_rfl
          case hQ15 => exact fun _ _ _ h => h
          case hy15 =>
            refine Or.inl ⟨rfl, ?_⟩
            intro W hSw
            obtain ⟨y0, y1, y2, y3⟩ := hSw
            go_simp
            try with_reducible rfl
          case hS15 => assumption
          try simp only [Act.put, List.setIfInBounds_toArray, List.set_cons_zero, List.set_cons_succ]
          refine wpAnyH_take (i := 16) (oi := ?oi16) (v := ?v16) ?hi16 ?hs16 ?hf16 ?hr16 ?hQ16 ?hy16 ?hS16 ?h16
          case hi16 => exact (by simp only [List.getElem?_toArray, List.getElem?_cons_succ, List.getElem?_cons_zero]; rfl)
          case hs16 => kernel_rfl
          case hf16 => kernel_rfl
          case hr16 => kernel_rfl
          case hQ16 => exact fun _ _ _ h => h
          case hy16 =>
            refine Or.inl ⟨rfl, ?_⟩
            intro W hSw
            obtain ⟨y0, y1, y2, y3⟩ := hSw
            go_simp
            try with_reducible rfl
          case hS16 => assumption
          try simp only [Act.put, List.setIfInBounds_toArray, List.set_cons_zero, List.set_cons_succ]
          refine wpAnyH_take (i := 17) (oi := ?oi17) (v := ?v17) ?hi17 ?hs17 ?hf17 ?hr17 ?hQ17 ?hy17 ?hS17 ?h17
          case hi17 => exact (by simp only [List.getElem?_toArray, List.getElem?_cons_succ, List.getElem?_cons_zero]; rfl)
          case hs17 => kernel_rfl
          case hf17 => kernel_rfl
          case hr17 => kernel_rfl
          case hQ17 => exact fun _ _ _ h => h
          case hy17 =>
            refine Or.inl ⟨rfl, ?_⟩
            intro W hSw
            obtain ⟨y0, y1, y2, y3⟩ := hSw
            go_simp
            try with_reducible rfl
          case hS17 => assumption
          try simp only [Act.put, List.setIfInBounds_toArray, List.set_cons_zero, List.set_cons_succ]
          refine wpAnyH_take (i := 18) (oi := ?oi18) (v := ?v18) ?hi18 ?hs18 ?hf18 ?hr18 ?hQ18 ?hy18 ?hS18 ?h18
          case hi18 => exact (by simp only [List.getElem?_toArray, List.getElem?_cons_succ, List.getElem?_cons_zero]; rfl)
          case hs18 => kernel_rfl
          case hf18 => kernel_rfl
          case hr18 => kernel_rfl
          case hQ18 => exact fun _ _ _ h => h
          case hy18 =>
            refine Or.inl ⟨rfl, ?_⟩
            intro W hSw
            obtain ⟨y0, y1, y2, y3⟩ := hSw
            go_simp
            try with_reducible rfl
          case hS18 => assumption
          try simp only [Act.put, List.setIfInBounds_toArray, List.set_cons_zero, List.set_cons_succ]
          refine wpAnyH_take (i := 19) (oi := ?oi19) (v := ?v19) ?hi19 ?hs19 ?hf19 ?hr19 ?hQ19 ?hy19 ?hS19 ?h19
          case hi19 => exact (by simp only [List.getElem?_toArray, List.getElem?_cons_succ, List.getElem?_cons_zero]; rfl)
          case hs19 => kernel_rfl
          case hf19 => kernel_rfl
          case hr19 => kernel_rfl
          case hQ19 => exact fun _ _ _ h => h
          case hy19 =>
            refine Or.inl ⟨rfl, ?_⟩
            intro W hSw
            obtain ⟨y0, y1, y2, y3⟩ := hSw
            go_simp
            try with_reducible rfl
          case hS19 => assumption
          try simp only [Act.put, List.setIfInBounds_toArray, List.set_cons_zero, List.set_cons_succ]
          refine wpAnyH_take (i := 20) (oi := ?oi20) (v := ?v20) ?hi20 ?hs20 ?hf20 ?hr20 ?hQ20 ?hy20 ?hS20 ?h20
          case hi20 => exact (by simp only [List.getElem?_toArray, List.getElem?_cons_succ, List.getElem?_cons_zero]; rfl)
          case hs20 => kernel_rfl
          case hf20 => kernel_rfl
          case hr20 => kernel_rfl
          case hQ20 => exact fun _ _ _ h => h
          case hy20 =>
            refine Or.inl ⟨rfl, ?_⟩
            intro W hSw
            obtain ⟨y0, y1, y2, y3⟩ := hSw
            go_simp
            try with_reducible rfl
          case hS20 => assumption
          try simp only [Act.put, List.setIfInBounds_toArray, List.set_cons_zero, List.set_cons_succ]
          refine wpAnyH_take (i := 21) (oi := ?oi21) (v := ?v21) ?hi21 ?hs21 ?hf21 ?hr21 ?hQ21 ?hy21 ?hS21 ?h21
          case hi21 => exact (by simp only [List.getElem?_toArray, List.getElem?_cons_succ, List.getElem?_cons_zero]; rfl)
          case hs21 => kernel_rfl
          case hf21 => kernel_rfl
          case hr21 => kernel_rfl
          case hQ21 => exact fun _ _ _ h => h
          case hy21 =>
            refine Or.inl ⟨rfl, ?_⟩
            intro W hSw
            obtain ⟨y0, y1, y2, y3⟩ := hSw
            go_simp
            try with_reducible rfl
          case hS21 => assumption
          try simp only [Act.put, List.setIfInBounds_toArray, List.set_cons_zero, List.set_cons_succ]
          refine wpAnyH_take (i := 22) (oi := ?oi22) (v := ?v22) ?hi22 ?hs22 ?hf22 ?hr22 ?hQ22 ?hy22 ?hS22 ?h22
          case hi22 => exact (by simp only [List.getElem?_toArray, List.getElem?_cons_succ, List.getElem?_cons_zero]; rfl)
          case hs22 => kernel_rfl
          case hf22 => kernel_rfl
          case hr22 => kernel_rfl
          case hQ22 => exact fun _ _ _ h => h
          case hy22 =>
            refine Or.inl ⟨rfl, ?_⟩
            intro W hSw
            obtain ⟨y0, y1, y2, y3⟩ := hSw
            go_simp
            try with_reducible rfl
          case hS22 => assumption
          try simp only [Act.put, List.setIfInBounds_toArray, List.set_cons_zero, List.set_cons_succ]
          refine wpAnyH_take (i := 23) (oi := ?oi23) (v := ?v23) ?hi23 ?hs23 ?hf23 ?hr23 ?hQ23 ?hy23 ?hS23 ?h23
          case hi23 => exact (by simp only [List.getElem?_toArray, List.getElem?_cons_succ, List.getElem?_cons_zero]; rfl)
          case hs23 => kernel_rfl
          case hf23 => kernel_rfl
          case hr23 => kernel_rfl
          case hQ23 => exact fun _ _ _ h => h
          case hy23 =>
            refine Or.inl ⟨rfl, ?_⟩
            intro W hSw
            obtain ⟨y0, y1, y2, y3⟩ := hSw
            go_simp
            try with_reducible rfl
          case hS23 => assumption
          try simp only [Act.put, List.setIfInBounds_toArray, List.set_cons_zero, List.set_cons_succ]
          refine wpAnyH_take (i := 24) (oi := ?oi24) (v := (.bool false)) ?hi24 ?hs24 ?hf24 ?hr24 ?hQ24 ?hy24 ?hS24 ?h24
          case hi24 => exact (by simp only [List.getElem?_toArray, List.getElem?_cons_succ, List.getElem?_cons_zero]; rfl)
          case hs24 => kernel_rfl
          case hf24 => kernel_rfl
          case hr24 => kernel_rfl
          case hQ24 => exact fun _ _ _ h => h
          case hy24 =>
            refine Or.inl ⟨rfl, ?_⟩
            intro W hSw
            obtain ⟨y0, y1, y2, y3⟩ := hSw
            go_simp
            all_goals first | with_reducible rfl | (simp; done) | (simp [htm]; done) | (simp [htm2]; done) | (simp; omega) | omega
          case hS24 => assumption
          try simp only [Act.put, List.setIfInBounds_toArray, List.set_cons_zero, List.set_cons_succ]
          refine wpAnyH_take (i := 25) (oi := ?oi25) (v := ?v25) ?hi25 ?hs25 ?hf25 ?hr25 ?hQ25 ?hy25 ?hS25 ?h25
          case hi25 => exact (by simp only [List.getElem?_toArray, List.getElem?_cons_succ, List.getElem?_cons_zero]; rfl)
          case hs25 => kernel_rfl
          case hf25 => kernel_rfl
          case hr25 => kernel_rfl
          case hQ25 => exact fun _ _ _ h => h
          case hy25 =>
            refine Or.inl ⟨rfl, ?_⟩
            intro W hSw
            obtain ⟨y0, y1, y2, y3⟩ := hSw
            go_simp
            try with_reducible rfl
          case hS25 => assumption
          try simp only [Act.put, List.setIfInBounds_toArray, List.set_cons_zero, List.set_cons_succ]
          refine wpAnyH_take (i := 26) (oi := ?oi26) (v := ?v26) ?hi26 ?hs26 ?hf26 ?hr26 ?hQ26 ?hy26 ?hS26 ?h26
          case hi26 => exact (by simp only [List.getElem?_toArray, List.getElem?_cons_succ, List.getElem?_cons_zero]; rfl)
          case hs26 => kernel_rfl
          case hf26 => kernel_rfl
          case hr26 => kernel_rfl
          case hQ26 => exact fun _ _ _ h => h
          case hy26 =>
            refine Or.inl ⟨rfl, ?_⟩
            intro W hSw
            obtain ⟨y0, y1, y2, y3⟩ := hSw
            go_simp
            try with_reducible rfl
          case hS26 => assumption
          try simp only [Act.put, List.setIfInBounds_toArray, List.set_cons_zero, List.set_cons_succ]
          refine wpAnyH_take (i := 27) (oi := ?oi27) (v := ?v27) ?hi27 ?hs27 ?hf27 ?hr27 ?hQ27 ?hy27 ?hS27 ?h27
          case hi27 => exact (by simp only [List.getElem?_toArray, List.getElem?_cons_succ, List.getElem?_cons_zero]; rfl)
          case hs27 => kernel_rfl
          case hf27 => kernel_rfl
          case hr27 => kernel_rfl
          case hQ27 => exact fun _ _ _ h => h
          case hy27 =>
            refine Or.inl ⟨rfl, ?_⟩
            intro W hSw
            obtain ⟨y0, y1, y2, y3⟩ := hSw
            go_simp
            try with_reducible rfl
          case hS27 => assumption
          try simp only [Act.put, List.setIfInBounds_toArray, List.set_cons_zero, List.set_cons_succ]
          refine wpAnyH_take (i := 28) (oi := ?oi28) (v := ?v28) ?hi28 ?hs28 ?hf28 ?hr28 ?hQ28 ?hy28 ?hS28 ?h28
          case hi28 => exact (by simp only [List.getElem?_toArray, List.getElem?_cons_succ, List.getElem?_cons_zero]; rfl)
          case hs28 => kernel_rfl
          case hf28 => kernel_rfl
          case hr28 => kernel_rfl
          case hQ28 => exact fun _ _ _ h => h
          case hy28 =>
            refine Or.inl ⟨rfl, ?_⟩
            intro W hSw
            obtain ⟨y0, y1, y2, y3⟩ := hSw
            go_simp
            try with_reducible rfl
          case hS28 => assumption
          try simp only [Act.put, List.setIfInBounds_toArray, List.set_cons_zero, List.set_cons_succ]
          refine wpAnyH_take (i := 29) (oi := ?oi29) (v := ?v29) ?hi29 ?hs29 ?hf29 ?hr29 ?hQ29 ?hy29 ?hS29 ?h29
          case hi29 => exact (by simp only [List.getElem?_toArray, List.getElem?_cons_succ, List.getElem?_cons_zero]; rfl)
          case hs29 => kernel_rfl
          case hf29 => kernel_rfl
          case hr29 => kernel_rfl
          case hQ29 => exact fun _ _ _ h => h
          case hy29 =>
            refine Or.inl ⟨rfl, ?_⟩
            intro W hSw
            obtain ⟨y0, y1, y2, y3⟩ := hSw
            go_simp
            try with_reducible rfl
          case hS29 => assumption
          try simp only [Act.put, List.setIfInBounds_toArray, List.set_cons_zero, List.set_cons_succ]
          refine wpAnyH_take (i := 30) (oi := ?oi30) (v := ?v30) ?hi30 ?hs30 ?hf30 ?hr30 ?hQ30 ?hy30 ?hS30 ?h30
          case hi30 => exact (by simp only [List.getElem?_toArray, List.getElem?_cons_succ, List.getElem?_cons_zero]; rfl)
          case hs30 => kernel_rfl
          case hf30 => kernel_rfl
          case hr30 => kernel_rfl
          case hQ30 => exact fun _ _ _ h => h
          case hy30 =>
            refine Or.inl ⟨rfl, ?_⟩
            intro W hSw
            obtain ⟨y0, y1, y2, y3⟩ := hSw
            go_simp
            try with_reducible rfl
          case hS30 => assumption
          try simp only [Act.put, List.setIfInBounds_toArray, List.set_cons_zero, List.set_cons_succ]
          refine wpAnyH_take (i := 31) (oi := ?oi31) (v := (.int .i64 (i : Int))) ?hi31 ?hs31 ?hf31 ?hr31 ?hQ31 ?hy31 ?hS31 ?h31
          case hi31 => exact (by simp only [List.getElem?_toArray, List.getElem?_cons_succ, List.getElem?_cons_zero]; rfl)
          case hs31 => kernel_rfl
          case hf31 => kernel_rfl
          case hr31 => kernel_rfl
          case hQ31 => exact fun _ _ _ h => h
          case hy31 =>
            refine Or.inl ⟨rfl, ?_⟩
            intro W hSw
            obtain ⟨y0, y1, y2, y3⟩ := hSw
            go_simp
            all_goals first | with_reducible rfl | (simp; done) | (simp [htm]; done) | (simp [htm2]; done) | (simp; omega) | omega
          case hS31 => assumption
          try simp only [Act.put, List.setIfInBounds_toArray, List.set_cons_zero, List.set_cons_succ]
          refine wpAnyH_take (i := 32) (oi := ?oi32) (v := (.int .i64 kd)) ?hi32 ?hs32 ?hf32 ?hr32 ?hQ32 ?hy32 ?hS32 ?h32
          case hi32 => exact (by simp only [List.getElem?_toArray, List.getElem?_cons_succ, List.getElem?_cons_zero]; rfl)
          case hs32 => kernel_rfl
          case hf32 => kernel_rfl
          case hr32 => kernel_rfl
          case hQ32 => exact fun _ _ _ h => h
          case hy32 =>
            refine Or.inl ⟨rfl, ?_⟩
            intro W hSw
            obtain ⟨y0, y1, y2, y3⟩ := hSw
            go_simp
            all_goals first | with_reducible rfl | (simp; done) | (simp [htm]; done) | (simp [htm2]; done) | (simp; omega) | omega
          case hS32 => assumption
          try simp only [Act.put, List.setIfInBounds_toArray, List.set_cons_zero, List.set_cons_succ]
          refine wpAnyH_take (i := 33) (oi := ?oi33) (v := (.bool false)) ?hi33 ?hs33 ?hf33 ?hr33 ?hQ33 ?hy33 ?hS33 ?h33
          case hi33 => exact (by simp only [List.getElem?_toArray, List.getElem?_cons_succ, List.getElem?_cons_zero]; rfl)
          case hs33 => kernel_rfl
          case hf33 => kernel_rfl
          case hr33 => kernel_rfl
          case hQ33 => exact fun _ _ _ h => h
          case hy33 =>
            refine Or.inl ⟨rfl, ?_⟩
            intro W hSw
            obtain ⟨y0, y1, y2, y3⟩ := hSw
            go_simp
            all_goals first | with_reducible rfl | (simp; done) | (simp [htm]; done) | (simp [htm2]; done) | (simp; omega) | omega
          case hS33 => assumption
          try simp only [Act.put, List.setIfInBounds_toArray, List.set_cons_zero, List.set_cons_succ]
          refine wpAnyH_take (i := 34) (oi := ?oi34) (v := ?v34) ?hi34 ?hs34 ?hf34 ?hr34 ?hQ34 ?hy34 ?hS34 ?h34
          case hi34 => exact (by simp only [List.getElem?_toArray, List.getElem?_cons_succ, List.getElem?_cons_zero]; rfl)
          case hs34 => kernel_rfl
          case hf34 => kernel_rfl
          case hr34 => kernel_rfl
          case hQ34 => exact fun _ _ _ h => h
          case hy34 =>
            refine Or.inl ⟨rfl, ?_⟩
            intro W hSw
            obtain ⟨y0, y1, y2, y3⟩ := hSw
            go_simp
            try with_reducible rfl
          case hS34 => assumption
          try simp only [Act.put, List.setIfInBounds_toArray, List.set_cons_zero, List.set_cons_succ]
          refine wpAnyH_done (by kernel_rfl) ?_ _
          have x0 := cell_of_row w6 G 0 _ _ _ HG6.out.1
          have x1 := cell_of_row w6 G 1 _ _ _ HG6.out.1
          have x2 := cell_of_row w6 G 2 _ _ _ HG6.out.1
          have xf : ∀ i, w6.frozen? ⟨G, i, none⟩ = false := fun i => frozen_of_row w6 _ i _ _ HG6.out.1
          simp at x0 x1 x2
          have y0 := cell_of_row w6 T8 0 _ _ _ HG6.out.2
          have y1 := cell_of_row w6 T8 1 _ _ _ HG6.out.2
          have y2 := cell_of_row w6 T8 2 _ _ _ HG6.out.2
          have yf : ∀ i, w6.frozen? ⟨T8, i, none⟩ = false := fun i => frozen_of_row w6 _ i _ _ HG6.out.2
          simp at y0 y1 y2
          have HW7 := Lib.hid (set3 (k := kd) (x := (i : Int)) (a := ea) HI6.out HC6.out ⟨HT8B.out, HT8B.out⟩ HG6.out.2)
          have HR7 : Hid ((((w6.setCell ⟨T8, 0, none⟩ (.int .i64 kd)).setCell ⟨T8, 1, none⟩ (.int .u32 (i : Int))).setCell ⟨T8, 2, none⟩ (.int .i64 ea)).heap[T8]? = some (.cells #[.int .i64 kd, .int .u32 (i : Int), .int .i64 ea] 35 (0, 0))) := by
            have q1 := heap_setCell_same w6 T8 0 _ 35 (.int .i64 kd) HG6.out.2
            have q2 := heap_setCell_same _ T8 1 _ 35 (.int .u32 (i : Int)) q1
            have q3 := heap_setCell_same _ T8 2 _ 35 (.int .i64 ea) q2
            simp only [Hid]
            simpa using q3
          cases b with
          | false =>
            go_wp2
            go_roundw
            case rel => exact ⟨j + 1, true, _, _, _, _, by omega, rfl, by go_num, HL4, HW7.out.2.2.2.1, HW7.out.2.2.2.2, HLF4, HR7, fun _ => HS4.out⟩
            case measure => simp [intOf] <;> omega
          | true =>
            rcases HOLD.out rfl with hla | ⟨hla, hlx⟩
            · have n1 : ¬ ea < la := by omega
              have n2 : ¬ ea = la := by omega
              go_wp2
              go_roundw
              case rel => exact ⟨j + 1, true, _, _, _, _, by omega, rfl, by go_num, HL4, HW7.out.2.2.2.1, HW7.out.2.2.2.2, HLF4, HR7, fun _ => HS4.out⟩
              case measure => simp [intOf] <;> omega
            · subst hla
              have n1 : ¬ la < la := by omega
              have n2 : ¬ (i : Int) ≤ lx := by omega
              go_wp2
              go_roundw
              case rel => exact ⟨j + 1, true, _, _, _, _, by omega, rfl, by go_num, HL4, HW7.out.2.2.2.1, HW7.out.2.2.2.2, HLF4, HR7, fun _ => HS4.out⟩
              case measure => simp [intOf] <;> omega
        · have hjd : j = d := by omega
          subst hjd
          go_wp2_with fail
          refine (due_any now wr HI3.out (by have := HL3.out.1; omega)).mono ?_
          rintro r w4 ⟨t, b4, L4, rfl, hcase, hI4, hC4⟩
          obtain ⟨rfl, rfl, rfl⟩ : b4 = false ∧ t = tV 0 0 0 ∧ L4 = L3 := by
            rcases hcase with ⟨hb, ht, hL, _⟩ | ⟨hb, e, he, hmin, hen, ht, hL⟩
            · exact ⟨hb, ht, hL⟩
            · have h0 : L3.countP (dueP now) = 0 := by have := HL3.out.2; omega
              have := List.countP_eq_zero.1 h0 e he
              simp [dueP] at this
              omega
          obtain ⟨w5, hw5⟩ : ∃ w5, w5 = w4.alloc (.cells #[.int .i64 0, .int .u32 0, .int .i64 0] 35) := ⟨_, rfl⟩
          have hb5 : Below w4.heap.size w4 w5 := by rw [hw5]; exact (Below.refl _ _).alloc (Nat.le_refl _) _
          have HI5 := Lib.hid (hI4.after hb5)
          have HC5 : Hid (Ch 2 w.heap.size w w5) := (HC3.out.trans hC4).trans (Ch.of_below hI4.lo hb5)
          have H5 := Lib.hid hw5
          have HLN := Lib.hid (len_any w5 HI5.out)
          obtain ⟨m, hm⟩ : ∃ m, m = L4.length := ⟨_, rfl⟩
          rw [← hm] at HLN
          have hmj : (m : Int) = (N : Int) - (j : Int) := by have := HL3.out.1; omega
          clear hI4 hC4 hcase hb5 hw5 hm
          go_upto_region 22 with (fail)
          rw [← H5.out]
          go_wp2_with fail
          refine HLN.out.mono ?_
          rintro r w6 ⟨rfl, hw6⟩
          subst hw6
          go_wp2_with fail
          refine (tawake _).mono ?_
          rintro r w7 ⟨rfl, hb7⟩
          have HBF : Hid (Below w.heap.size w w7) := HC5.out.below.trans (hb7.mono HC5.out.size)
          clear hb7
          go_wp2
          go_ret
          exact ⟨rfl, HBF.out⟩
end Go.Proofs.Ytaoejkbockcneaa
