/- Draft: full; places. -/
import Derived.Test.YtnloikdfbdpilaaD6
namespace Go.Proofs.Ytnloikdfbdpilaa
open Go.RowKit
set_option maxRecDepth 20000

abbrev eV (e : En) : Value := .agg #[.int .i64 e.p, .int .i64 e.n, .int .i64 e.r, .int .i64 e.v]
set_option maxHeartbeats 1000000 in
theorem none_any (e : En) (w : World) : Calls Try.prog 49 #[eV e] w fun r w' => r = .returned (.bool (decide (e.n < 1))) ∧ Below w.heap.size w w' := by
  obtain ⟨w0, hw0⟩ : ∃ w0, w0 = w.alloc (.cells (ec e).toArray 80) := ⟨_, rfl⟩
  have hb0 : Below w.heap.size w w0 := by rw [hw0]; exact (Below.refl _ _).alloc (Nat.le_refl _) _
  have hq0 : w0.heap[w.heap.size]? = some (.cells (ec e).toArray 80 (0, 0)) := by rw [hw0]; exact heap_alloc_new w _
  have c1 := cell_of_row w0 w.heap.size 1 _ _ _ hq0
  simp [ec] at c1
  have H0 := Lib.hid hw0
  simp only [ec] at H0
  have HB0 := Lib.hid hb0
  clear hw0 hb0 hq0
  by_cases h : e.n < 1
  · rw [decide_eq_true h]
    go_enter Try.func49, Try.ntmps49
    go_upto_region 1 with (fail)
    rw [← H0.out]
    go_wp2
    go_ret
    exact ⟨by simp <;> omega, HB0.out⟩
  · rw [decide_eq_false h]
    go_enter Try.func49, Try.ntmps49
    go_upto_region 1 with (fail)
    rw [← H0.out]
    go_wp2
    go_ret
    exact ⟨by simp <;> omega, HB0.out⟩

/-- Has one of them no player? -/
def anyNone (l : List En) : Bool := l.any fun e => decide (e.n < 1)

set_option maxHeartbeats 4000000 in
theorem index_any (A : Option Addr) (n c : Nat) (l : List En) (w : World) (hn : n = l.length) (hE : Es w w.heap.size A l) (hl : n ≤ 1000) :
    Calls Try.prog 50 #[.slice A n c, .func (.func 49) #[] #[]] w fun r w' => (∃ i : Int, r = .returned (.int .i64 i) ∧ ((i = -1 ∧ anyNone l = false) ∨ (0 ≤ i ∧ anyNone l = true))) ∧ Below w.heap.size w w' := by
  have HE := Lib.hid hE
  have HN := Lib.hid hn
  have HBr : Hid (Below w.heap.size w w) := Below.refl _ _
  clear hE hn
  go_enter Try.func50, Try.ntmps50
  go_wp2_with fail
  go_loopw [8] (fun u wr => ∃ k : Nat, k ≤ n ∧ u = .int .i64 (k : Int) ∧ Hid ((∀ e ∈ l.take k, 1 ≤ e.n) ∧ Below w.heap.size w wr)) (fun u _ => n - (intOf u).toNat)
  case atStart => exact ⟨0, by omega, rfl, by simp, HBr.out⟩
  case round =>
    obtain ⟨k, hk, rfl, HV⟩ := hrel
    by_cases hlt : k < n
    · obtain ⟨e, hy⟩ : ∃ e, l[k]? = some e := ⟨l[k]'(by rw [← HN.out]; exact hlt), List.getElem?_eq_getElem _⟩
      obtain ⟨b1, o1, rfl, hb1, ha1⟩ := (HE.out.below HV.out.2) (by have := HN.out; omega)
      obtain ⟨d0, d1, d2, d3⟩ := ha1 k _ hy
      have HY := Lib.hid hy
      obtain ⟨t, ht⟩ : ∃ t, t = decide (e.n < 1) := ⟨_, rfl⟩
      have HC : Hid (∀ W, Calls Try.prog 49 #[eV e] W fun r w' => r = .returned (.bool t) ∧ Below W.heap.size W w') := fun W => by rw [ht]; exact none_any e W
      have HT := Lib.hid ht
      clear ha1 hy hb1 ht
      go_wp2_with fail
      refine (HC.out _).mono ?_
      rintro r w1 ⟨rfl, hb⟩
      have HB1 : Hid (Below w.heap.size w w1) := HV.out.2.trans (hb.mono HV.out.2.size)
      clear hb
      cases t
      · go_wp2
        go_roundw
        case rel =>
          refine ⟨k + 1, by omega, by go_num, fun x hx => ?_, HB1.out⟩
          rw [List.take_add_one, HY.out] at hx
          rcases List.mem_append.1 hx with h | h
          · exact HV.out.1 x h
          · simp at h
            subst h
            have := HT.out.symm
            rw [decide_eq_false_iff_not] at this
            omega
        case measure => simp [intOf] <;> omega
      · have HA : Hid (anyNone l = true) := by
          simp only [Hid, anyNone]
          rw [List.any_eq_true]
          exact ⟨e, List.mem_of_getElem? HY.out, HT.out.symm⟩
        go_wp2
        go_ret
        exact ⟨⟨(k : Int), rfl, .inr ⟨by omega, HA.out⟩⟩, HB1.out⟩
    · have hkn : k = n := by omega
      subst hkn
      have HA : Hid (anyNone l = false) := by
        have h := HV.out.1
        rw [List.take_of_length_le (by rw [← HN.out]; omega)] at h
        simp only [Hid, anyNone]
        rw [List.any_eq_false]
        intro e he
        have := h e he
        simp
        omega
      go_wp2
      go_ret
      exact ⟨⟨-1, rfl, .inl ⟨rfl, HA.out⟩⟩, HV.out.2⟩

set_option maxHeartbeats 2000000 in
theorem contains_any (A : Option Addr) (n c : Nat) (l : List En) (w : World) (hn : n = l.length) (hE : Es w w.heap.size A l) (hl : n ≤ 1000) :
    Calls Try.prog 48 #[.slice A n c, .func (.func 49) #[] #[]] w fun r w' => r = .returned (.bool (anyNone l)) ∧ Below w.heap.size w w' := by
  obtain ⟨t, ht⟩ : ∃ t, t = anyNone l := ⟨_, rfl⟩
  have HC := Lib.hid (index_any A n c l w hn hE hl)
  rw [← ht] at HC ⊢
  clear ht hE hn
  go_enter Try.func48, Try.ntmps48
  go_wp2_with fail
  refine HC.out.mono ?_
  rintro r w1 ⟨⟨i, rfl, hi⟩, hb⟩
  have HB := Lib.hid hb
  clear hb
  rcases hi with ⟨rfl, rfl⟩ | ⟨h0, rfl⟩
  · skip
    go_wp2
    go_ret
    exact ⟨rfl, HB.out⟩
  · go_wp2
    go_ret
    exact ⟨by simp <;> omega, HB.out⟩
theorem field_n (X Y : Int) (w : World) : (Instr.field 85 (tV X Y) 0).run Try.prog w = .ok (.int .i64 X) w := by kernel_rfl
theorem field_w (X Y : Int) (w : World) : (Instr.field 85 (tV X Y) 1).run Try.prog w = .ok (.int .i64 Y) w := by kernel_rfl
/-- Do entries make a team of just k players, each with one at least? -/
def fullP (k : Int) (l : List En) : Bool := decide (sumN l = k) && !anyNone l

set_option maxHeartbeats 2000000 in
theorem full_any (k : Int) (A : Option Addr) (n c : Nat) (l : List En) (w : World) (hn : n = l.length) (hE : Es w w.heap.size A l) (hO : ∀ e ∈ l, Ok e) (hl : n ≤ 20) :
    Calls Try.prog 43 #[.int .i64 k, .slice A n c] w fun r w' => r = .returned (.bool (fullP k l)) ∧ Below w.heap.size w w' := by
  obtain ⟨X, hX⟩ : ∃ X, X = sumN l := ⟨_, rfl⟩
  obtain ⟨Y, hY⟩ : ∃ Y, Y = sumW l := ⟨_, rfl⟩
  obtain ⟨t, ht⟩ : ∃ t, t = anyNone l := ⟨_, rfl⟩
  have HC1 := Lib.hid (together_any A n c l w hn hE hO hl)
  have HC2 : Hid (∀ W, Below w.heap.size w W → Calls Try.prog 48 #[.slice A n c, .func (.func 49) #[] #[]] W fun r w' => r = .returned (.bool t) ∧ Below W.heap.size W w') := fun W hW => by
    rw [ht]
    exact contains_any A n c l W hn (hE.later hW (Nat.le_refl _)) (by omega)
  rw [← hX, ← hY] at HC1
  have e : fullP k l = (decide (X = k) && !t) := by rw [hX, ht]; rfl
  rw [e]
  clear hX hY ht hE hn hO e
  have hF := field_n X Y
  by_cases hk : X = k
  · subst hk
    go_enter Try.func43, Try.ntmps43
    go_wp2_with fail
    refine HC1.out.mono ?_
    rintro r w1 ⟨rfl, hb⟩
    have HB1 := Lib.hid hb
    clear hb
    go_wp2_with fail
    refine (HC2.out w1 HB1.out).mono ?_
    rintro r w2 ⟨rfl, hb⟩
    have HB2 := Lib.hid (HB1.out.trans (hb.mono HB1.out.size))
    clear hb
    cases t
    all_goals
      go_wp2
      go_ret
      exact ⟨by simp, HB2.out⟩
  · have hk1 : (X == k) = false := by simp [hk]
    go_enter Try.func43, Try.ntmps43
    go_wp2_with fail
    refine HC1.out.mono ?_
    rintro r w1 ⟨rfl, hb⟩
    have HB1 := Lib.hid hb
    clear hb
    go_wp2
    go_ret
    exact ⟨by simp [hk], HB1.out⟩
end Go.Proofs.Ytnloikdfbdpilaa
