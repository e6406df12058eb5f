/- Pool: PoolLate's walk. -/
import Derived.Test.YtddjbkaofodmlaaPA
namespace Go.Proofs.Ytddjbkaofodmlaa
open Go.RowKit Go.ChangeShapes
open Go.Joins
set_option maxRecDepth 20000
set_option linter.unusedVariables false
set_option linter.unusedSimpArgs false

theorem open_arr {H : Type} {enc : TypeId × Value → H} {W : World} {base : Nat} {spare : Nat → Bool} {held : Bool} {t e n : Nat} {k : IntKind} {v : Value} {d : DataW H} {p : List MemPlace} {r : Reach} {b0 : Nat} (hu : Try.prog.underlying t = some (.array n e)) (he : Try.prog.underlying e = some (.int k)) (hce : Try.prog.cellsOf e = 1) (hct : Try.prog.cellsOf t = n)
    (hv : Value.okWide Try.prog W r b0 t v) (h : DataW.Trod enc Try.prog W base spare held t v d p) :
    ∃ l : List Value, v = .agg l.toArray ∧ l.length = n ∧ ∀ c ∈ l, ∃ z : Int, c = .int k z ∧ (Lit.int k z).wf = true := by
  have h2 : ∃ cs, v = .agg cs ∧ cs.size = Try.prog.cellsOf t := by
    unfold Value.okWide at hv
    rw [hu] at hv
    obtain ⟨cs, h1, h2, _⟩ := hv
    exact ⟨cs, h1, h2⟩
  obtain ⟨cs, rfl, hsz⟩ := h2
  obtain ⟨fuel, hf⟩ := h
  obtain ⟨xs, m, _, _, _, hxl, hx⟩ := DataW.trod_array hu hf
  refine ⟨cs.toList, by simp, by simp [hsz, hct], fun c hc => ?_⟩
  obtain ⟨i, hi, rfl⟩ := List.getElem_of_mem hc
  have hin : i < n := by simpa [hsz, hct] using hi
  have h1 := hx i hin
  rw [hce, Nat.mul_one, List.getElem?_eq_getElem (by omega)] at h1
  have e1 : (Value.cells (.agg cs)).toList = cs.toList := rfl
  rw [e1, List.drop_eq_getElem_cons hi, List.take_succ_cons, List.take_zero] at h1
  obtain ⟨z, h3, _, h4⟩ := DataW.trod_int he h1
  exact ⟨z, by simpa using h3, h4⟩
theorem cells2' : Try.prog.cellsOf 2 = 1 := by kernel_rfl
theorem cells46' : Try.prog.cellsOf 46 = 3 := by kernel_rfl
theorem open_three {H : Type} {enc : TypeId × Value → H} {W : World} {base : Nat} {spare : Nat → Bool} {held : Bool} {v : Value} {d : DataW H} {p : List MemPlace} {r : Reach} {b0 : Nat} (hv : Value.okWide Try.prog W r b0 46 v) (h : DataW.Trod enc Try.prog W base spare held 46 v d p) :
    ∃ x y z : Int, v = .agg #[.int .i64 x, .int .i64 y, .int .i64 z] ∧ inI x ∧ inI y ∧ inI z := by
  obtain ⟨l, rfl, hl, hc⟩ := open_arr Try.underlying46 Try.underlying2 cells2' cells46' hv h
  obtain ⟨a, b, c, rfl⟩ : ∃ a b c, l = [a, b, c] := by
    rcases l with _ | ⟨a, _ | ⟨b, _ | ⟨c, _ | ⟨d, l⟩⟩⟩⟩ <;> simp at hl
    exact ⟨a, b, c, rfl⟩
  obtain ⟨x, rfl, hx⟩ := hc a (by simp)
  obtain ⟨y, rfl, hy⟩ := hc b (by simp)
  obtain ⟨z, rfl, hz⟩ := hc c (by simp)
  exact ⟨x, y, z, rfl, bounds_i64 hx, bounds_i64 hy, bounds_i64 hz⟩
/-- Late, told by its length. -/
def LatePost (n : Nat) (w : World) (r : Ending) (w' : World) : Prop := (∃ A c, r = .returned (.slice A n c)) ∧ Below w.heap.size w w'
theorem late_n {B P I : Nat} {beat : Int} {l : List In} (now : Int) (n : Nat) (w : World) (h : Po w B P I beat l) (hI : ∀ e ∈ l, inI e.2.2) (hb : inI beat) (hnow : inI now) (hn : (lateU beat now l 0).length = n) :
    Calls Try.prog 18 #[.pointer (some ⟨P, 0, none⟩), .int .i64 now] w (LatePost n w) :=
  (late_any now w h hI hb hnow).mono fun r w' ⟨v', e, ho, hb⟩ => by
    obtain ⟨A, c, rfl⟩ := own_form1 ho
    rw [hn] at e
    exact ⟨⟨A, c, e⟩, hb⟩
theorem late_hd (beat now : Int) (e : In) : (lateU beat now [e] 0).length = if lt1 beat now e = true then 1 else 0 := by
  simp only [lateU]
  split <;> simp
set_option maxHeartbeats 16000000 in
theorem late_walk (beat at_ later : Int) (quiet : Bool) (w : World) (hbt : inI beat) (hat : inI at_) (hla : inI later) :
    Calls Try.prog 5 #[.agg #[.int .i64 beat, .int .i64 at_, .int .i64 later], .bool quiet] w fun r w' => r = .returned (.bool true) ∧ Below w.heap.size w w' := by
  obtain ⟨w0, hw0⟩ : ∃ w0, w0 = w.alloc (.cells #[.int .i64 beat, .int .i64 at_, .int .i64 later] 46) := ⟨_, rfl⟩
  have hb0 : Below w.heap.size w w0 := by rw [hw0]; exact (Below.refl _ _).alloc (Nat.le_refl _) _
  have hq0 : w0.heap[w.heap.size]? = some (.cells #[.int .i64 beat, .int .i64 at_, .int .i64 later] 46 (0, 0)) := by rw [hw0]; exact heap_alloc_new w _
  have q0 := cell_of_row w0 w.heap.size 0 _ _ _ hq0
  have q1 := cell_of_row w0 w.heap.size 1 _ _ _ hq0
  have q2 := cell_of_row w0 w.heap.size 2 _ _ _ hq0
  simp at q0 q1 q2
  have HB0 := Lib.hid hb0
  have H0 := Lib.hid hw0
  clear hw0 hb0 hq0
  by_cases ha : ¬ (0 ≤ at_ ∧ at_ ≤ 1152921504606846976 ∧ 0 ≤ later ∧ later ≤ 1152921504606846976)
  · by_cases g1 : at_ < 0
    · go_enter Try.func5, Try.ntmps5
      go_upto_region 1 with (fail)
      rw [← H0.out]
      go_quiet (fail)
      go_wp2
      go_ret
      exact ⟨rfl, belowN HB0.out⟩
    · by_cases g2 : 1152921504606846976 < at_
      · go_enter Try.func5, Try.ntmps5
        go_upto_region 1 with (fail)
        rw [← H0.out]
        go_quiet (fail)
        go_wp2
        go_ret
        exact ⟨rfl, belowN HB0.out⟩
      · by_cases g3 : later < 0
        · go_enter Try.func5, Try.ntmps5
          go_upto_region 1 with (fail)
          rw [← H0.out]
          go_quiet (fail)
          go_wp2
          go_ret
          exact ⟨rfl, belowN HB0.out⟩
        · have g4 : 1152921504606846976 < later := by omega
          go_enter Try.func5, Try.ntmps5
          go_upto_region 1 with (fail)
          rw [← H0.out]
          go_quiet (fail)
          go_wp2
          go_ret
          exact ⟨rfl, belowN HB0.out⟩
  obtain ⟨a1, a2, a3, a4⟩ : 0 ≤ at_ ∧ at_ ≤ 1152921504606846976 ∧ 0 ≤ later ∧ later ≤ 1152921504606846976 := by omega
  clear ha
  have hnw : inI (at_ + later) := ⟨by omega, by omega⟩
  obtain ⟨D, hD⟩ : ∃ D, D = addP at_ beat := ⟨_, rfl⟩
  have HR : Hid (∀ W, Calls Try.prog 17 #[.int .i64 at_, .int .i64 beat] W fun r w' => r = .returned (.int .i64 D) ∧ w' = W) := fun W => by rw [hD]; exact radd_any at_ beat W hat hbt
  have h5 : beat ≤ 0 → D ≤ at_ + later := by intro h; rw [hD]; unfold addP; omega
  rcases (by cases quiet <;> simp <;> omega : (quiet = false ∧ D ≤ at_ + later ∧ beat ≤ 0) ∨ (quiet = false ∧ D ≤ at_ + later ∧ ¬ beat ≤ 0) ∨ (quiet = false ∧ ¬ D ≤ at_ + later ∧ ¬ beat ≤ 0) ∨ (quiet = true ∧ D ≤ at_ + later ∧ beat ≤ 0) ∨ (quiet = true ∧ D ≤ at_ + later ∧ ¬ beat ≤ 0) ∨ (quiet = true ∧ ¬ D ≤ at_ + later ∧ ¬ beat ≤ 0)) with h | h | h | h | h | h
  · obtain ⟨rfl, hdue, hle⟩ := h
    have HD : Hid (D = addP at_ beat) := hD
    clear hD h5
    go_enter Try.func5, Try.ntmps5
    go_upto_region 1 with (fail)
    rw [← H0.out]
    go_quiet (fail)
    go_wp2_with fail
    obtain ⟨wq, hwq⟩ : ∃ wq, wq = w0.drewN nq := ⟨_, rfl⟩
    rw [← hwq]
    have HWQ : Hid (Below w.heap.size w wq) := by rw [hwq]; exact belowN HB0.out
    clear hwq
    refine (new_any 1 beat 1 wq (by omega)).mono ?_
    rintro r w1 ⟨P, I, rfl, h1, hb1⟩
    have H1 : Hid (Po w1 wq.heap.size P I beat [(0, 0, 0)] ∧ Below w.heap.size w w1) := ⟨h1, HWQ.out.trans (hb1.mono HWQ.out.size)⟩
    have HPI : Hid (w.heap.size ≤ P ∧ w.heap.size ≤ I) := ⟨Nat.le_trans HWQ.out.size h1.1, Nat.le_trans HWQ.out.size h1.2.1⟩
    clear h1 hb1
    have C2 : Hid (Calls Try.prog 14 #[.pointer (some ⟨P, 0, none⟩), .int .u32 1, .int .i64 at_] w1 fun r w' => r = .returned (.tuple #[.int .u32 0, .int .i64 0]) ∧ Po w' wq.heap.size P I beat [(1, 0, at_)] ∧ Below w.heap.size w w') :=
      (hello_ok 0 0 0 0 at_ w1 H1.out.1 rfl (by decide)).mono fun r w' ⟨e, h, g⟩ => ⟨e, h, H1.out.2.trans (g.below HPI.out.2 H1.out.2.size)⟩
    go_wp2_with fail
    refine C2.out.mono ?_
    rintro r w2 ⟨rfl, h, hb⟩
    have H2 : Hid (Po w2 wq.heap.size P I beat [(1, 0, at_)] ∧ Below w.heap.size w w2) := ⟨h, hb⟩
    clear h hb
    go_wp2_with fail
    refine (HR.out w2).mono ?_
    rintro r w2x ⟨rfl, hw2x⟩
    obtain rfl := hw2x.symm
    have C3 : Hid (Calls Try.prog 18 #[.pointer (some ⟨P, 0, none⟩), .int .i64 (at_ + later)] w2 (LatePost 1 w2)) := late_n (at_ + later) 1 w2 H2.out.1 (fun e he => by simp at he; subst he; exact hat) hbt hnw (by rw [late_hd]; have := HD.out; simp [lt1]; omega)
    go_wp2_with fail
    refine C3.out.mono ?_
    rintro r w3 ⟨⟨A3, c3, rfl⟩, hb⟩
    have H3 : Hid (Po w3 wq.heap.size P I beat [(1, 0, at_)] ∧ Below w.heap.size w w3) := ⟨H2.out.1.after hb, H2.out.2.trans (hb.mono H2.out.2.size)⟩
    clear hb
    have C4 : Hid (Calls Try.prog 19 #[.pointer (some ⟨P, 0, none⟩), .int .u32 1, .int .i64 (at_ + later)] w3 fun r w' => r = .returned (.int .i64 0) ∧ Po w' wq.heap.size P I beat [(1, 0, at_ + later)] ∧ Below w.heap.size w w') :=
      (beat_ok 0 1 0 at_ (at_ + later) w3 H3.out.1 rfl (by decide)).mono fun r w' ⟨e, h, g⟩ => ⟨e, h, H3.out.2.trans (g.below HPI.out.2 H3.out.2.size)⟩
    go_wp2_with fail
    refine C4.out.mono ?_
    rintro r w4 ⟨rfl, h, hb⟩
    have H4 : Hid (Po w4 wq.heap.size P I beat [(1, 0, at_ + later)] ∧ Below w.heap.size w w4) := ⟨h, hb⟩
    clear h hb
    have C5 : Hid (Calls Try.prog 18 #[.pointer (some ⟨P, 0, none⟩), .int .i64 (at_ + later)] w4 (LatePost 1 w4)) := late_n (at_ + later) 1 w4 H4.out.1 (fun e he => by simp at he; subst he; first | exact hat | exact hnw) hbt hnw (by rw [late_hd]; simp [lt1]; unfold addP; omega)
    go_wp2_with fail
    refine C5.out.mono ?_
    rintro r w5 ⟨⟨A5, c5, rfl⟩, hb⟩
    have H5 : Hid (Po w5 wq.heap.size P I beat [(1, 0, at_ + later)] ∧ Below w.heap.size w w5) := ⟨H4.out.1.after hb, H4.out.2.trans (hb.mono H4.out.2.size)⟩
    clear hb
    have C6 : Hid (Calls Try.prog 20 #[.pointer (some ⟨P, 0, none⟩), .int .u32 1] w5 fun r w' => r = .returned (.tuple #[.int .u32 0, .int .i64 0]) ∧ Po w' wq.heap.size P I beat [(0, 0, (at_ + later))] ∧ Below w.heap.size w w') :=
      (kill_ok 0 1 0 (at_ + later) w5 H5.out.1 rfl (by decide)).mono fun r w' ⟨e, h, g⟩ => ⟨e, h, H5.out.2.trans (g.below HPI.out.2 H5.out.2.size)⟩
    go_wp2_with fail
    refine C6.out.mono ?_
    rintro r w6 ⟨rfl, h, hb⟩
    have H6 : Hid (Po w6 wq.heap.size P I beat [(0, 0, (at_ + later))] ∧ Below w.heap.size w w6) := ⟨h, hb⟩
    clear h hb
    have C7 : Hid (Calls Try.prog 18 #[.pointer (some ⟨P, 0, none⟩), .int .i64 (9223372036854775807)] w6 (LatePost 0 w6)) := late_n (9223372036854775807) 0 w6 H6.out.1 (fun e he => by simp at he; subst he; first | exact hat | exact hnw) hbt (by decide) (by rw [late_hd]; simp [lt1])
    go_wp2_with fail
    refine C7.out.mono ?_
    rintro r w7 ⟨⟨A7, c7, rfl⟩, hb⟩
    have H7 : Hid (Po w7 wq.heap.size P I beat [(0, 0, (at_ + later))] ∧ Below w.heap.size w w7) := ⟨H6.out.1.after hb, H6.out.2.trans (hb.mono H6.out.2.size)⟩
    clear hb
    have C8 : Hid (Calls Try.prog 19 #[.pointer (some ⟨P, 0, none⟩), .int .u32 1, .int .i64 (at_ + later)] w7 fun r w' => r = .returned (.int .i64 24) ∧ Below w.heap.size w w') :=
      (beat_bad 0 0 0 (at_ + later) (at_ + later) w7 H7.out.1 rfl (by decide)).mono fun r w' ⟨e, hb⟩ => ⟨e, H7.out.2.trans (hb.mono H7.out.2.size)⟩
    go_wp2_with fail
    refine C8.out.mono ?_
    rintro r w8 ⟨rfl, hb⟩
    have H8 := Lib.hid hb
    clear hb
    go_wp2_with fail
    refine (pawake w8).mono ?_
    rintro r w9 ⟨rfl, hb⟩
    have H9 := Lib.hid (H8.out.trans (hb.mono H8.out.size))
    clear hb
    go_wp2
    go_ret
    exact ⟨rfl, H9.out⟩
  · obtain ⟨rfl, hdue, hle⟩ := h
    have HD : Hid (D = addP at_ beat) := hD
    clear hD h5
    go_enter Try.func5, Try.ntmps5
    go_upto_region 1 with (fail)
    rw [← H0.out]
    go_quiet (fail)
    go_wp2_with fail
    obtain ⟨wq, hwq⟩ : ∃ wq, wq = w0.drewN nq := ⟨_, rfl⟩
    rw [← hwq]
    have HWQ : Hid (Below w.heap.size w wq) := by rw [hwq]; exact belowN HB0.out
    clear hwq
    refine (new_any 1 beat 1 wq (by omega)).mono ?_
    rintro r w1 ⟨P, I, rfl, h1, hb1⟩
    have H1 : Hid (Po w1 wq.heap.size P I beat [(0, 0, 0)] ∧ Below w.heap.size w w1) := ⟨h1, HWQ.out.trans (hb1.mono HWQ.out.size)⟩
    have HPI : Hid (w.heap.size ≤ P ∧ w.heap.size ≤ I) := ⟨Nat.le_trans HWQ.out.size h1.1, Nat.le_trans HWQ.out.size h1.2.1⟩
    clear h1 hb1
    have C2 : Hid (Calls Try.prog 14 #[.pointer (some ⟨P, 0, none⟩), .int .u32 1, .int .i64 at_] w1 fun r w' => r = .returned (.tuple #[.int .u32 0, .int .i64 0]) ∧ Po w' wq.heap.size P I beat [(1, 0, at_)] ∧ Below w.heap.size w w') :=
      (hello_ok 0 0 0 0 at_ w1 H1.out.1 rfl (by decide)).mono fun r w' ⟨e, h, g⟩ => ⟨e, h, H1.out.2.trans (g.below HPI.out.2 H1.out.2.size)⟩
    go_wp2_with fail
    refine C2.out.mono ?_
    rintro r w2 ⟨rfl, h, hb⟩
    have H2 : Hid (Po w2 wq.heap.size P I beat [(1, 0, at_)] ∧ Below w.heap.size w w2) := ⟨h, hb⟩
    clear h hb
    go_wp2_with fail
    refine (HR.out w2).mono ?_
    rintro r w2x ⟨rfl, hw2x⟩
    obtain rfl := hw2x.symm
    have C3 : Hid (Calls Try.prog 18 #[.pointer (some ⟨P, 0, none⟩), .int .i64 (at_ + later)] w2 (LatePost 1 w2)) := late_n (at_ + later) 1 w2 H2.out.1 (fun e he => by simp at he; subst he; exact hat) hbt hnw (by rw [late_hd]; have := HD.out; simp [lt1]; omega)
    go_wp2_with fail
    refine C3.out.mono ?_
    rintro r w3 ⟨⟨A3, c3, rfl⟩, hb⟩
    have H3 : Hid (Po w3 wq.heap.size P I beat [(1, 0, at_)] ∧ Below w.heap.size w w3) := ⟨H2.out.1.after hb, H2.out.2.trans (hb.mono H2.out.2.size)⟩
    clear hb
    have C4 : Hid (Calls Try.prog 19 #[.pointer (some ⟨P, 0, none⟩), .int .u32 1, .int .i64 (at_ + later)] w3 fun r w' => r = .returned (.int .i64 0) ∧ Po w' wq.heap.size P I beat [(1, 0, at_ + later)] ∧ Below w.heap.size w w') :=
      (beat_ok 0 1 0 at_ (at_ + later) w3 H3.out.1 rfl (by decide)).mono fun r w' ⟨e, h, g⟩ => ⟨e, h, H3.out.2.trans (g.below HPI.out.2 H3.out.2.size)⟩
    go_wp2_with fail
    refine C4.out.mono ?_
    rintro r w4 ⟨rfl, h, hb⟩
    have H4 : Hid (Po w4 wq.heap.size P I beat [(1, 0, at_ + later)] ∧ Below w.heap.size w w4) := ⟨h, hb⟩
    clear h hb
    have C5 : Hid (Calls Try.prog 18 #[.pointer (some ⟨P, 0, none⟩), .int .i64 (at_ + later)] w4 (LatePost 0 w4)) := late_n (at_ + later) 0 w4 H4.out.1 (fun e he => by simp at he; subst he; first | exact hat | exact hnw) hbt hnw (by rw [late_hd]; simp [lt1]; unfold addP; omega)
    go_wp2_with fail
    refine C5.out.mono ?_
    rintro r w5 ⟨⟨A5, c5, rfl⟩, hb⟩
    have H5 : Hid (Po w5 wq.heap.size P I beat [(1, 0, at_ + later)] ∧ Below w.heap.size w w5) := ⟨H4.out.1.after hb, H4.out.2.trans (hb.mono H4.out.2.size)⟩
    clear hb
    have C6 : Hid (Calls Try.prog 20 #[.pointer (some ⟨P, 0, none⟩), .int .u32 1] w5 fun r w' => r = .returned (.tuple #[.int .u32 0, .int .i64 0]) ∧ Po w' wq.heap.size P I beat [(0, 0, (at_ + later))] ∧ Below w.heap.size w w') :=
      (kill_ok 0 1 0 (at_ + later) w5 H5.out.1 rfl (by decide)).mono fun r w' ⟨e, h, g⟩ => ⟨e, h, H5.out.2.trans (g.below HPI.out.2 H5.out.2.size)⟩
    go_wp2_with fail
    refine C6.out.mono ?_
    rintro r w6 ⟨rfl, h, hb⟩
    have H6 : Hid (Po w6 wq.heap.size P I beat [(0, 0, (at_ + later))] ∧ Below w.heap.size w w6) := ⟨h, hb⟩
    clear h hb
    have C7 : Hid (Calls Try.prog 18 #[.pointer (some ⟨P, 0, none⟩), .int .i64 (9223372036854775807)] w6 (LatePost 0 w6)) := late_n (9223372036854775807) 0 w6 H6.out.1 (fun e he => by simp at he; subst he; first | exact hat | exact hnw) hbt (by decide) (by rw [late_hd]; simp [lt1])
    go_wp2_with fail
    refine C7.out.mono ?_
    rintro r w7 ⟨⟨A7, c7, rfl⟩, hb⟩
    have H7 : Hid (Po w7 wq.heap.size P I beat [(0, 0, (at_ + later))] ∧ Below w.heap.size w w7) := ⟨H6.out.1.after hb, H6.out.2.trans (hb.mono H6.out.2.size)⟩
    clear hb
    have C8 : Hid (Calls Try.prog 19 #[.pointer (some ⟨P, 0, none⟩), .int .u32 1, .int .i64 (at_ + later)] w7 fun r w' => r = .returned (.int .i64 24) ∧ Below w.heap.size w w') :=
      (beat_bad 0 0 0 (at_ + later) (at_ + later) w7 H7.out.1 rfl (by decide)).mono fun r w' ⟨e, hb⟩ => ⟨e, H7.out.2.trans (hb.mono H7.out.2.size)⟩
    go_wp2_with fail
    refine C8.out.mono ?_
    rintro r w8 ⟨rfl, hb⟩
    have H8 := Lib.hid hb
    clear hb
    go_wp2_with fail
    refine (pawake w8).mono ?_
    rintro r w9 ⟨rfl, hb⟩
    have H9 := Lib.hid (H8.out.trans (hb.mono H8.out.size))
    clear hb
    go_wp2
    go_ret
    exact ⟨rfl, H9.out⟩
  · obtain ⟨rfl, hdue, hle⟩ := h
    have HD : Hid (D = addP at_ beat) := hD
    clear hD h5
    go_enter Try.func5, Try.ntmps5
    go_upto_region 1 with (fail)
    rw [← H0.out]
    go_quiet (fail)
    go_wp2_with fail
    obtain ⟨wq, hwq⟩ : ∃ wq, wq = w0.drewN nq := ⟨_, rfl⟩
    rw [← hwq]
    have HWQ : Hid (Below w.heap.size w wq) := by rw [hwq]; exact belowN HB0.out
    clear hwq
    refine (new_any 1 beat 1 wq (by omega)).mono ?_
    rintro r w1 ⟨P, I, rfl, h1, hb1⟩
    have H1 : Hid (Po w1 wq.heap.size P I beat [(0, 0, 0)] ∧ Below w.heap.size w w1) := ⟨h1, HWQ.out.trans (hb1.mono HWQ.out.size)⟩
    have HPI : Hid (w.heap.size ≤ P ∧ w.heap.size ≤ I) := ⟨Nat.le_trans HWQ.out.size h1.1, Nat.le_trans HWQ.out.size h1.2.1⟩
    clear h1 hb1
    have C2 : Hid (Calls Try.prog 14 #[.pointer (some ⟨P, 0, none⟩), .int .u32 1, .int .i64 at_] w1 fun r w' => r = .returned (.tuple #[.int .u32 0, .int .i64 0]) ∧ Po w' wq.heap.size P I beat [(1, 0, at_)] ∧ Below w.heap.size w w') :=
      (hello_ok 0 0 0 0 at_ w1 H1.out.1 rfl (by decide)).mono fun r w' ⟨e, h, g⟩ => ⟨e, h, H1.out.2.trans (g.below HPI.out.2 H1.out.2.size)⟩
    go_wp2_with fail
    refine C2.out.mono ?_
    rintro r w2 ⟨rfl, h, hb⟩
    have H2 : Hid (Po w2 wq.heap.size P I beat [(1, 0, at_)] ∧ Below w.heap.size w w2) := ⟨h, hb⟩
    clear h hb
    go_wp2_with fail
    refine (HR.out w2).mono ?_
    rintro r w2x ⟨rfl, hw2x⟩
    obtain rfl := hw2x.symm
    have C3 : Hid (Calls Try.prog 18 #[.pointer (some ⟨P, 0, none⟩), .int .i64 (at_ + later)] w2 (LatePost 0 w2)) := late_n (at_ + later) 0 w2 H2.out.1 (fun e he => by simp at he; subst he; exact hat) hbt hnw (by rw [late_hd]; have := HD.out; simp [lt1]; omega)
    go_wp2_with fail
    refine C3.out.mono ?_
    rintro r w3 ⟨⟨A3, c3, rfl⟩, hb⟩
    have H3 : Hid (Po w3 wq.heap.size P I beat [(1, 0, at_)] ∧ Below w.heap.size w w3) := ⟨H2.out.1.after hb, H2.out.2.trans (hb.mono H2.out.2.size)⟩
    clear hb
    have C4 : Hid (Calls Try.prog 19 #[.pointer (some ⟨P, 0, none⟩), .int .u32 1, .int .i64 (at_ + later)] w3 fun r w' => r = .returned (.int .i64 0) ∧ Po w' wq.heap.size P I beat [(1, 0, at_ + later)] ∧ Below w.heap.size w w') :=
      (beat_ok 0 1 0 at_ (at_ + later) w3 H3.out.1 rfl (by decide)).mono fun r w' ⟨e, h, g⟩ => ⟨e, h, H3.out.2.trans (g.below HPI.out.2 H3.out.2.size)⟩
    go_wp2_with fail
    refine C4.out.mono ?_
    rintro r w4 ⟨rfl, h, hb⟩
    have H4 : Hid (Po w4 wq.heap.size P I beat [(1, 0, at_ + later)] ∧ Below w.heap.size w w4) := ⟨h, hb⟩
    clear h hb
    have C5 : Hid (Calls Try.prog 18 #[.pointer (some ⟨P, 0, none⟩), .int .i64 (at_ + later)] w4 (LatePost 0 w4)) := late_n (at_ + later) 0 w4 H4.out.1 (fun e he => by simp at he; subst he; first | exact hat | exact hnw) hbt hnw (by rw [late_hd]; simp [lt1]; unfold addP; omega)
    go_wp2_with fail
    refine C5.out.mono ?_
    rintro r w5 ⟨⟨A5, c5, rfl⟩, hb⟩
    have H5 : Hid (Po w5 wq.heap.size P I beat [(1, 0, at_ + later)] ∧ Below w.heap.size w w5) := ⟨H4.out.1.after hb, H4.out.2.trans (hb.mono H4.out.2.size)⟩
    clear hb
    have C6 : Hid (Calls Try.prog 20 #[.pointer (some ⟨P, 0, none⟩), .int .u32 1] w5 fun r w' => r = .returned (.tuple #[.int .u32 0, .int .i64 0]) ∧ Po w' wq.heap.size P I beat [(0, 0, (at_ + later))] ∧ Below w.heap.size w w') :=
      (kill_ok 0 1 0 (at_ + later) w5 H5.out.1 rfl (by decide)).mono fun r w' ⟨e, h, g⟩ => ⟨e, h, H5.out.2.trans (g.below HPI.out.2 H5.out.2.size)⟩
    go_wp2_with fail
    refine C6.out.mono ?_
    rintro r w6 ⟨rfl, h, hb⟩
    have H6 : Hid (Po w6 wq.heap.size P I beat [(0, 0, (at_ + later))] ∧ Below w.heap.size w w6) := ⟨h, hb⟩
    clear h hb
    have C7 : Hid (Calls Try.prog 18 #[.pointer (some ⟨P, 0, none⟩), .int .i64 (9223372036854775807)] w6 (LatePost 0 w6)) := late_n (9223372036854775807) 0 w6 H6.out.1 (fun e he => by simp at he; subst he; first | exact hat | exact hnw) hbt (by decide) (by rw [late_hd]; simp [lt1])
    go_wp2_with fail
    refine C7.out.mono ?_
    rintro r w7 ⟨⟨A7, c7, rfl⟩, hb⟩
    have H7 : Hid (Po w7 wq.heap.size P I beat [(0, 0, (at_ + later))] ∧ Below w.heap.size w w7) := ⟨H6.out.1.after hb, H6.out.2.trans (hb.mono H6.out.2.size)⟩
    clear hb
    have C8 : Hid (Calls Try.prog 19 #[.pointer (some ⟨P, 0, none⟩), .int .u32 1, .int .i64 (at_ + later)] w7 fun r w' => r = .returned (.int .i64 24) ∧ Below w.heap.size w w') :=
      (beat_bad 0 0 0 (at_ + later) (at_ + later) w7 H7.out.1 rfl (by decide)).mono fun r w' ⟨e, hb⟩ => ⟨e, H7.out.2.trans (hb.mono H7.out.2.size)⟩
    go_wp2_with fail
    refine C8.out.mono ?_
    rintro r w8 ⟨rfl, hb⟩
    have H8 := Lib.hid hb
    clear hb
    go_wp2_with fail
    refine (pawake w8).mono ?_
    rintro r w9 ⟨rfl, hb⟩
    have H9 := Lib.hid (H8.out.trans (hb.mono H8.out.size))
    clear hb
    go_wp2
    go_ret
    exact ⟨rfl, H9.out⟩
  · obtain ⟨rfl, hdue, hle⟩ := h
    have HD : Hid (D = addP at_ beat) := hD
    clear hD h5
    go_enter Try.func5, Try.ntmps5
    go_upto_region 1 with (fail)
    rw [← H0.out]
    go_quiet (fail)
    go_wp2_with fail
    obtain ⟨wq, hwq⟩ : ∃ wq, wq = w0.drewN nq := ⟨_, rfl⟩
    rw [← hwq]
    have HWQ : Hid (Below w.heap.size w wq) := by rw [hwq]; exact belowN HB0.out
    clear hwq
    refine (new_any 1 beat 1 wq (by omega)).mono ?_
    rintro r w1 ⟨P, I, rfl, h1, hb1⟩
    have H1 : Hid (Po w1 wq.heap.size P I beat [(0, 0, 0)] ∧ Below w.heap.size w w1) := ⟨h1, HWQ.out.trans (hb1.mono HWQ.out.size)⟩
    have HPI : Hid (w.heap.size ≤ P ∧ w.heap.size ≤ I) := ⟨Nat.le_trans HWQ.out.size h1.1, Nat.le_trans HWQ.out.size h1.2.1⟩
    clear h1 hb1
    have C2 : Hid (Calls Try.prog 14 #[.pointer (some ⟨P, 0, none⟩), .int .u32 1, .int .i64 at_] w1 fun r w' => r = .returned (.tuple #[.int .u32 0, .int .i64 0]) ∧ Po w' wq.heap.size P I beat [(1, 0, at_)] ∧ Below w.heap.size w w') :=
      (hello_ok 0 0 0 0 at_ w1 H1.out.1 rfl (by decide)).mono fun r w' ⟨e, h, g⟩ => ⟨e, h, H1.out.2.trans (g.below HPI.out.2 H1.out.2.size)⟩
    go_wp2_with fail
    refine C2.out.mono ?_
    rintro r w2 ⟨rfl, h, hb⟩
    have H2 : Hid (Po w2 wq.heap.size P I beat [(1, 0, at_)] ∧ Below w.heap.size w w2) := ⟨h, hb⟩
    clear h hb
    have C3 : Hid (Calls Try.prog 15 #[.pointer (some ⟨P, 0, none⟩), .int .u32 1, .int .u32 3] w2 fun r w' => r = .returned (.int .i64 0) ∧ Po w' wq.heap.size P I beat [(2, 3, at_)] ∧ Below w.heap.size w w') :=
      (hold_ok 0 1 0 at_ 3 w2 H2.out.1 rfl rfl (by decide)).mono fun r w' ⟨e, h, g⟩ => ⟨e, h, H2.out.2.trans (g.below HPI.out.2 H2.out.2.size)⟩
    go_wp2_with fail
    refine C3.out.mono ?_
    rintro r w3 ⟨rfl, h, hb⟩
    have H3 : Hid (Po w3 wq.heap.size P I beat [(2, 3, at_)] ∧ Below w.heap.size w w3) := ⟨h, hb⟩
    clear h hb
    have C4 : Hid (Calls Try.prog 16 #[.pointer (some ⟨P, 0, none⟩), .int .u32 1, .int .i64 at_] w3 fun r w' => r = .returned (.int .i64 0) ∧ Po w' wq.heap.size P I beat [(3, 3, at_)] ∧ Below w.heap.size w w') :=
      (start_ok 0 2 3 at_ at_ w3 H3.out.1 rfl (by decide)).mono fun r w' ⟨e, h, g⟩ => ⟨e, h, H3.out.2.trans (g.below HPI.out.2 H3.out.2.size)⟩
    go_wp2_with fail
    refine C4.out.mono ?_
    rintro r w4 ⟨rfl, h, hb⟩
    have H4 : Hid (Po w4 wq.heap.size P I beat [(3, 3, at_)] ∧ Below w.heap.size w w4) := ⟨h, hb⟩
    clear h hb
    go_wp2_with fail
    refine (HR.out w4).mono ?_
    rintro r w4x ⟨rfl, hw4x⟩
    obtain rfl := hw4x.symm
    have C5 : Hid (Calls Try.prog 18 #[.pointer (some ⟨P, 0, none⟩), .int .i64 (at_ + later)] w4 (LatePost 1 w4)) := late_n (at_ + later) 1 w4 H4.out.1 (fun e he => by simp at he; subst he; exact hat) hbt hnw (by rw [late_hd]; have := HD.out; simp [lt1]; omega)
    go_wp2_with fail
    refine C5.out.mono ?_
    rintro r w5 ⟨⟨A5, c5, rfl⟩, hb⟩
    have H5 : Hid (Po w5 wq.heap.size P I beat [(3, 3, at_)] ∧ Below w.heap.size w w5) := ⟨H4.out.1.after hb, H4.out.2.trans (hb.mono H4.out.2.size)⟩
    clear hb
    have C6 : Hid (Calls Try.prog 19 #[.pointer (some ⟨P, 0, none⟩), .int .u32 1, .int .i64 (at_ + later)] w5 fun r w' => r = .returned (.int .i64 0) ∧ Po w' wq.heap.size P I beat [(3, 3, at_)] ∧ Below w.heap.size w w') :=
      (beat_ok 0 3 3 at_ (at_ + later) w5 H5.out.1 rfl (by decide)).mono fun r w' ⟨e, h, g⟩ => ⟨e, h, H5.out.2.trans (g.below HPI.out.2 H5.out.2.size)⟩
    go_wp2_with fail
    refine C6.out.mono ?_
    rintro r w6 ⟨rfl, h, hb⟩
    have H6 : Hid (Po w6 wq.heap.size P I beat [(3, 3, at_)] ∧ Below w.heap.size w w6) := ⟨h, hb⟩
    clear h hb
    have C7 : Hid (Calls Try.prog 18 #[.pointer (some ⟨P, 0, none⟩), .int .i64 (at_ + later)] w6 (LatePost 1 w6)) := late_n (at_ + later) 1 w6 H6.out.1 (fun e he => by simp at he; subst he; first | exact hat | exact hnw) hbt hnw (by rw [late_hd]; have := HD.out; simp [lt1]; omega)
    go_wp2_with fail
    refine C7.out.mono ?_
    rintro r w7 ⟨⟨A7, c7, rfl⟩, hb⟩
    have H7 : Hid (Po w7 wq.heap.size P I beat [(3, 3, at_)] ∧ Below w.heap.size w w7) := ⟨H6.out.1.after hb, H6.out.2.trans (hb.mono H6.out.2.size)⟩
    clear hb
    have C8 : Hid (Calls Try.prog 20 #[.pointer (some ⟨P, 0, none⟩), .int .u32 1] w7 fun r w' => r = .returned (.tuple #[.int .u32 3, .int .i64 0]) ∧ Po w' wq.heap.size P I beat [(0, 0, at_)] ∧ Below w.heap.size w w') :=
      (kill_ok 0 3 3 at_ w7 H7.out.1 rfl (by decide)).mono fun r w' ⟨e, h, g⟩ => ⟨e, h, H7.out.2.trans (g.below HPI.out.2 H7.out.2.size)⟩
    go_wp2_with fail
    refine C8.out.mono ?_
    rintro r w8 ⟨rfl, h, hb⟩
    have H8 : Hid (Po w8 wq.heap.size P I beat [(0, 0, at_)] ∧ Below w.heap.size w w8) := ⟨h, hb⟩
    clear h hb
    have C9 : Hid (Calls Try.prog 18 #[.pointer (some ⟨P, 0, none⟩), .int .i64 (9223372036854775807)] w8 (LatePost 0 w8)) := late_n (9223372036854775807) 0 w8 H8.out.1 (fun e he => by simp at he; subst he; first | exact hat | exact hnw) hbt (by decide) (by rw [late_hd]; simp [lt1])
    go_wp2_with fail
    refine C9.out.mono ?_
    rintro r w9 ⟨⟨A9, c9, rfl⟩, hb⟩
    have H9 : Hid (Po w9 wq.heap.size P I beat [(0, 0, at_)] ∧ Below w.heap.size w w9) := ⟨H8.out.1.after hb, H8.out.2.trans (hb.mono H8.out.2.size)⟩
    clear hb
    have C10 : Hid (Calls Try.prog 19 #[.pointer (some ⟨P, 0, none⟩), .int .u32 1, .int .i64 (at_ + later)] w9 fun r w' => r = .returned (.int .i64 24) ∧ Below w.heap.size w w') :=
      (beat_bad 0 0 0 at_ (at_ + later) w9 H9.out.1 rfl (by decide)).mono fun r w' ⟨e, hb⟩ => ⟨e, H9.out.2.trans (hb.mono H9.out.2.size)⟩
    go_wp2_with fail
    refine C10.out.mono ?_
    rintro r w10 ⟨rfl, hb⟩
    have H10 := Lib.hid hb
    clear hb
    go_wp2_with fail
    refine (pawake w10).mono ?_
    rintro r w11 ⟨rfl, hb⟩
    have H11 := Lib.hid (H10.out.trans (hb.mono H10.out.size))
    clear hb
    go_wp2
    go_ret
    exact ⟨rfl, H11.out⟩
  · obtain ⟨rfl, hdue, hle⟩ := h
    have HD : Hid (D = addP at_ beat) := hD
    clear hD h5
    go_enter Try.func5, Try.ntmps5
    go_upto_region 1 with (fail)
    rw [← H0.out]
    go_quiet (fail)
    go_wp2_with fail
    obtain ⟨wq, hwq⟩ : ∃ wq, wq = w0.drewN nq := ⟨_, rfl⟩
    rw [← hwq]
    have HWQ : Hid (Below w.heap.size w wq) := by rw [hwq]; exact belowN HB0.out
    clear hwq
    refine (new_any 1 beat 1 wq (by omega)).mono ?_
    rintro r w1 ⟨P, I, rfl, h1, hb1⟩
    have H1 : Hid (Po w1 wq.heap.size P I beat [(0, 0, 0)] ∧ Below w.heap.size w w1) := ⟨h1, HWQ.out.trans (hb1.mono HWQ.out.size)⟩
    have HPI : Hid (w.heap.size ≤ P ∧ w.heap.size ≤ I) := ⟨Nat.le_trans HWQ.out.size h1.1, Nat.le_trans HWQ.out.size h1.2.1⟩
    clear h1 hb1
    have C2 : Hid (Calls Try.prog 14 #[.pointer (some ⟨P, 0, none⟩), .int .u32 1, .int .i64 at_] w1 fun r w' => r = .returned (.tuple #[.int .u32 0, .int .i64 0]) ∧ Po w' wq.heap.size P I beat [(1, 0, at_)] ∧ Below w.heap.size w w') :=
      (hello_ok 0 0 0 0 at_ w1 H1.out.1 rfl (by decide)).mono fun r w' ⟨e, h, g⟩ => ⟨e, h, H1.out.2.trans (g.below HPI.out.2 H1.out.2.size)⟩
    go_wp2_with fail
    refine C2.out.mono ?_
    rintro r w2 ⟨rfl, h, hb⟩
    have H2 : Hid (Po w2 wq.heap.size P I beat [(1, 0, at_)] ∧ Below w.heap.size w w2) := ⟨h, hb⟩
    clear h hb
    have C3 : Hid (Calls Try.prog 15 #[.pointer (some ⟨P, 0, none⟩), .int .u32 1, .int .u32 3] w2 fun r w' => r = .returned (.int .i64 0) ∧ Po w' wq.heap.size P I beat [(2, 3, at_)] ∧ Below w.heap.size w w') :=
      (hold_ok 0 1 0 at_ 3 w2 H2.out.1 rfl rfl (by decide)).mono fun r w' ⟨e, h, g⟩ => ⟨e, h, H2.out.2.trans (g.below HPI.out.2 H2.out.2.size)⟩
    go_wp2_with fail
    refine C3.out.mono ?_
    rintro r w3 ⟨rfl, h, hb⟩
    have H3 : Hid (Po w3 wq.heap.size P I beat [(2, 3, at_)] ∧ Below w.heap.size w w3) := ⟨h, hb⟩
    clear h hb
    have C4 : Hid (Calls Try.prog 16 #[.pointer (some ⟨P, 0, none⟩), .int .u32 1, .int .i64 at_] w3 fun r w' => r = .returned (.int .i64 0) ∧ Po w' wq.heap.size P I beat [(3, 3, at_)] ∧ Below w.heap.size w w') :=
      (start_ok 0 2 3 at_ at_ w3 H3.out.1 rfl (by decide)).mono fun r w' ⟨e, h, g⟩ => ⟨e, h, H3.out.2.trans (g.below HPI.out.2 H3.out.2.size)⟩
    go_wp2_with fail
    refine C4.out.mono ?_
    rintro r w4 ⟨rfl, h, hb⟩
    have H4 : Hid (Po w4 wq.heap.size P I beat [(3, 3, at_)] ∧ Below w.heap.size w w4) := ⟨h, hb⟩
    clear h hb
    go_wp2_with fail
    refine (HR.out w4).mono ?_
    rintro r w4x ⟨rfl, hw4x⟩
    obtain rfl := hw4x.symm
    have C5 : Hid (Calls Try.prog 18 #[.pointer (some ⟨P, 0, none⟩), .int .i64 (at_ + later)] w4 (LatePost 1 w4)) := late_n (at_ + later) 1 w4 H4.out.1 (fun e he => by simp at he; subst he; exact hat) hbt hnw (by rw [late_hd]; have := HD.out; simp [lt1]; omega)
    go_wp2_with fail
    refine C5.out.mono ?_
    rintro r w5 ⟨⟨A5, c5, rfl⟩, hb⟩
    have H5 : Hid (Po w5 wq.heap.size P I beat [(3, 3, at_)] ∧ Below w.heap.size w w5) := ⟨H4.out.1.after hb, H4.out.2.trans (hb.mono H4.out.2.size)⟩
    clear hb
    have C6 : Hid (Calls Try.prog 19 #[.pointer (some ⟨P, 0, none⟩), .int .u32 1, .int .i64 (at_ + later)] w5 fun r w' => r = .returned (.int .i64 0) ∧ Po w' wq.heap.size P I beat [(3, 3, at_)] ∧ Below w.heap.size w w') :=
      (beat_ok 0 3 3 at_ (at_ + later) w5 H5.out.1 rfl (by decide)).mono fun r w' ⟨e, h, g⟩ => ⟨e, h, H5.out.2.trans (g.below HPI.out.2 H5.out.2.size)⟩
    go_wp2_with fail
    refine C6.out.mono ?_
    rintro r w6 ⟨rfl, h, hb⟩
    have H6 : Hid (Po w6 wq.heap.size P I beat [(3, 3, at_)] ∧ Below w.heap.size w w6) := ⟨h, hb⟩
    clear h hb
    have C7 : Hid (Calls Try.prog 18 #[.pointer (some ⟨P, 0, none⟩), .int .i64 (at_ + later)] w6 (LatePost 1 w6)) := late_n (at_ + later) 1 w6 H6.out.1 (fun e he => by simp at he; subst he; first | exact hat | exact hnw) hbt hnw (by rw [late_hd]; have := HD.out; simp [lt1]; omega)
    go_wp2_with fail
    refine C7.out.mono ?_
    rintro r w7 ⟨⟨A7, c7, rfl⟩, hb⟩
    have H7 : Hid (Po w7 wq.heap.size P I beat [(3, 3, at_)] ∧ Below w.heap.size w w7) := ⟨H6.out.1.after hb, H6.out.2.trans (hb.mono H6.out.2.size)⟩
    clear hb
    have C8 : Hid (Calls Try.prog 20 #[.pointer (some ⟨P, 0, none⟩), .int .u32 1] w7 fun r w' => r = .returned (.tuple #[.int .u32 3, .int .i64 0]) ∧ Po w' wq.heap.size P I beat [(0, 0, at_)] ∧ Below w.heap.size w w') :=
      (kill_ok 0 3 3 at_ w7 H7.out.1 rfl (by decide)).mono fun r w' ⟨e, h, g⟩ => ⟨e, h, H7.out.2.trans (g.below HPI.out.2 H7.out.2.size)⟩
    go_wp2_with fail
    refine C8.out.mono ?_
    rintro r w8 ⟨rfl, h, hb⟩
    have H8 : Hid (Po w8 wq.heap.size P I beat [(0, 0, at_)] ∧ Below w.heap.size w w8) := ⟨h, hb⟩
    clear h hb
    have C9 : Hid (Calls Try.prog 18 #[.pointer (some ⟨P, 0, none⟩), .int .i64 (9223372036854775807)] w8 (LatePost 0 w8)) := late_n (9223372036854775807) 0 w8 H8.out.1 (fun e he => by simp at he; subst he; first | exact hat | exact hnw) hbt (by decide) (by rw [late_hd]; simp [lt1])
    go_wp2_with fail
    refine C9.out.mono ?_
    rintro r w9 ⟨⟨A9, c9, rfl⟩, hb⟩
    have H9 : Hid (Po w9 wq.heap.size P I beat [(0, 0, at_)] ∧ Below w.heap.size w w9) := ⟨H8.out.1.after hb, H8.out.2.trans (hb.mono H8.out.2.size)⟩
    clear hb
    have C10 : Hid (Calls Try.prog 19 #[.pointer (some ⟨P, 0, none⟩), .int .u32 1, .int .i64 (at_ + later)] w9 fun r w' => r = .returned (.int .i64 24) ∧ Below w.heap.size w w') :=
      (beat_bad 0 0 0 at_ (at_ + later) w9 H9.out.1 rfl (by decide)).mono fun r w' ⟨e, hb⟩ => ⟨e, H9.out.2.trans (hb.mono H9.out.2.size)⟩
    go_wp2_with fail
    refine C10.out.mono ?_
    rintro r w10 ⟨rfl, hb⟩
    have H10 := Lib.hid hb
    clear hb
    go_wp2_with fail
    refine (pawake w10).mono ?_
    rintro r w11 ⟨rfl, hb⟩
    have H11 := Lib.hid (H10.out.trans (hb.mono H10.out.size))
    clear hb
    go_wp2
    go_ret
    exact ⟨rfl, H11.out⟩
  · obtain ⟨rfl, hdue, hle⟩ := h
    have HD : Hid (D = addP at_ beat) := hD
    clear hD h5
    go_enter Try.func5, Try.ntmps5
    go_upto_region 1 with (fail)
    rw [← H0.out]
    go_quiet (fail)
    go_wp2_with fail
    obtain ⟨wq, hwq⟩ : ∃ wq, wq = w0.drewN nq := ⟨_, rfl⟩
    rw [← hwq]
    have HWQ : Hid (Below w.heap.size w wq) := by rw [hwq]; exact belowN HB0.out
    clear hwq
    refine (new_any 1 beat 1 wq (by omega)).mono ?_
    rintro r w1 ⟨P, I, rfl, h1, hb1⟩
    have H1 : Hid (Po w1 wq.heap.size P I beat [(0, 0, 0)] ∧ Below w.heap.size w w1) := ⟨h1, HWQ.out.trans (hb1.mono HWQ.out.size)⟩
    have HPI : Hid (w.heap.size ≤ P ∧ w.heap.size ≤ I) := ⟨Nat.le_trans HWQ.out.size h1.1, Nat.le_trans HWQ.out.size h1.2.1⟩
    clear h1 hb1
    have C2 : Hid (Calls Try.prog 14 #[.pointer (some ⟨P, 0, none⟩), .int .u32 1, .int .i64 at_] w1 fun r w' => r = .returned (.tuple #[.int .u32 0, .int .i64 0]) ∧ Po w' wq.heap.size P I beat [(1, 0, at_)] ∧ Below w.heap.size w w') :=
      (hello_ok 0 0 0 0 at_ w1 H1.out.1 rfl (by decide)).mono fun r w' ⟨e, h, g⟩ => ⟨e, h, H1.out.2.trans (g.below HPI.out.2 H1.out.2.size)⟩
    go_wp2_with fail
    refine C2.out.mono ?_
    rintro r w2 ⟨rfl, h, hb⟩
    have H2 : Hid (Po w2 wq.heap.size P I beat [(1, 0, at_)] ∧ Below w.heap.size w w2) := ⟨h, hb⟩
    clear h hb
    have C3 : Hid (Calls Try.prog 15 #[.pointer (some ⟨P, 0, none⟩), .int .u32 1, .int .u32 3] w2 fun r w' => r = .returned (.int .i64 0) ∧ Po w' wq.heap.size P I beat [(2, 3, at_)] ∧ Below w.heap.size w w') :=
      (hold_ok 0 1 0 at_ 3 w2 H2.out.1 rfl rfl (by decide)).mono fun r w' ⟨e, h, g⟩ => ⟨e, h, H2.out.2.trans (g.below HPI.out.2 H2.out.2.size)⟩
    go_wp2_with fail
    refine C3.out.mono ?_
    rintro r w3 ⟨rfl, h, hb⟩
    have H3 : Hid (Po w3 wq.heap.size P I beat [(2, 3, at_)] ∧ Below w.heap.size w w3) := ⟨h, hb⟩
    clear h hb
    have C4 : Hid (Calls Try.prog 16 #[.pointer (some ⟨P, 0, none⟩), .int .u32 1, .int .i64 at_] w3 fun r w' => r = .returned (.int .i64 0) ∧ Po w' wq.heap.size P I beat [(3, 3, at_)] ∧ Below w.heap.size w w') :=
      (start_ok 0 2 3 at_ at_ w3 H3.out.1 rfl (by decide)).mono fun r w' ⟨e, h, g⟩ => ⟨e, h, H3.out.2.trans (g.below HPI.out.2 H3.out.2.size)⟩
    go_wp2_with fail
    refine C4.out.mono ?_
    rintro r w4 ⟨rfl, h, hb⟩
    have H4 : Hid (Po w4 wq.heap.size P I beat [(3, 3, at_)] ∧ Below w.heap.size w w4) := ⟨h, hb⟩
    clear h hb
    go_wp2_with fail
    refine (HR.out w4).mono ?_
    rintro r w4x ⟨rfl, hw4x⟩
    obtain rfl := hw4x.symm
    have C5 : Hid (Calls Try.prog 18 #[.pointer (some ⟨P, 0, none⟩), .int .i64 (at_ + later)] w4 (LatePost 0 w4)) := late_n (at_ + later) 0 w4 H4.out.1 (fun e he => by simp at he; subst he; exact hat) hbt hnw (by rw [late_hd]; have := HD.out; simp [lt1]; omega)
    go_wp2_with fail
    refine C5.out.mono ?_
    rintro r w5 ⟨⟨A5, c5, rfl⟩, hb⟩
    have H5 : Hid (Po w5 wq.heap.size P I beat [(3, 3, at_)] ∧ Below w.heap.size w w5) := ⟨H4.out.1.after hb, H4.out.2.trans (hb.mono H4.out.2.size)⟩
    clear hb
    have C6 : Hid (Calls Try.prog 19 #[.pointer (some ⟨P, 0, none⟩), .int .u32 1, .int .i64 (at_ + later)] w5 fun r w' => r = .returned (.int .i64 0) ∧ Po w' wq.heap.size P I beat [(3, 3, at_)] ∧ Below w.heap.size w w') :=
      (beat_ok 0 3 3 at_ (at_ + later) w5 H5.out.1 rfl (by decide)).mono fun r w' ⟨e, h, g⟩ => ⟨e, h, H5.out.2.trans (g.below HPI.out.2 H5.out.2.size)⟩
    go_wp2_with fail
    refine C6.out.mono ?_
    rintro r w6 ⟨rfl, h, hb⟩
    have H6 : Hid (Po w6 wq.heap.size P I beat [(3, 3, at_)] ∧ Below w.heap.size w w6) := ⟨h, hb⟩
    clear h hb
    have C7 : Hid (Calls Try.prog 18 #[.pointer (some ⟨P, 0, none⟩), .int .i64 (at_ + later)] w6 (LatePost 0 w6)) := late_n (at_ + later) 0 w6 H6.out.1 (fun e he => by simp at he; subst he; first | exact hat | exact hnw) hbt hnw (by rw [late_hd]; have := HD.out; simp [lt1]; omega)
    go_wp2_with fail
    refine C7.out.mono ?_
    rintro r w7 ⟨⟨A7, c7, rfl⟩, hb⟩
    have H7 : Hid (Po w7 wq.heap.size P I beat [(3, 3, at_)] ∧ Below w.heap.size w w7) := ⟨H6.out.1.after hb, H6.out.2.trans (hb.mono H6.out.2.size)⟩
    clear hb
    have C8 : Hid (Calls Try.prog 20 #[.pointer (some ⟨P, 0, none⟩), .int .u32 1] w7 fun r w' => r = .returned (.tuple #[.int .u32 3, .int .i64 0]) ∧ Po w' wq.heap.size P I beat [(0, 0, at_)] ∧ Below w.heap.size w w') :=
      (kill_ok 0 3 3 at_ w7 H7.out.1 rfl (by decide)).mono fun r w' ⟨e, h, g⟩ => ⟨e, h, H7.out.2.trans (g.below HPI.out.2 H7.out.2.size)⟩
    go_wp2_with fail
    refine C8.out.mono ?_
    rintro r w8 ⟨rfl, h, hb⟩
    have H8 : Hid (Po w8 wq.heap.size P I beat [(0, 0, at_)] ∧ Below w.heap.size w w8) := ⟨h, hb⟩
    clear h hb
    have C9 : Hid (Calls Try.prog 18 #[.pointer (some ⟨P, 0, none⟩), .int .i64 (9223372036854775807)] w8 (LatePost 0 w8)) := late_n (9223372036854775807) 0 w8 H8.out.1 (fun e he => by simp at he; subst he; first | exact hat | exact hnw) hbt (by decide) (by rw [late_hd]; simp [lt1])
    go_wp2_with fail
    refine C9.out.mono ?_
    rintro r w9 ⟨⟨A9, c9, rfl⟩, hb⟩
    have H9 : Hid (Po w9 wq.heap.size P I beat [(0, 0, at_)] ∧ Below w.heap.size w w9) := ⟨H8.out.1.after hb, H8.out.2.trans (hb.mono H8.out.2.size)⟩
    clear hb
    have C10 : Hid (Calls Try.prog 19 #[.pointer (some ⟨P, 0, none⟩), .int .u32 1, .int .i64 (at_ + later)] w9 fun r w' => r = .returned (.int .i64 24) ∧ Below w.heap.size w w') :=
      (beat_bad 0 0 0 at_ (at_ + later) w9 H9.out.1 rfl (by decide)).mono fun r w' ⟨e, hb⟩ => ⟨e, H9.out.2.trans (hb.mono H9.out.2.size)⟩
    go_wp2_with fail
    refine C10.out.mono ?_
    rintro r w10 ⟨rfl, hb⟩
    have H10 := Lib.hid hb
    clear hb
    go_wp2_with fail
    refine (pawake w10).mono ?_
    rintro r w11 ⟨rfl, hb⟩
    have H11 := Lib.hid (H10.out.trans (hb.mono H10.out.size))
    clear hb
    go_wp2
    go_ret
    exact ⟨rfl, H11.out⟩
end Go.Proofs.Ytddjbkaofodmlaa
