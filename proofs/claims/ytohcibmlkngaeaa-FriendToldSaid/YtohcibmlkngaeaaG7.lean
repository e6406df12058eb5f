/- Friend: the closures; outgoing; full; Links. -/
import Derived.Test.YtohcibmlkngaeaaG4
import Derived.Test.YtohcibmlkngaeaaG5
import Derived.Test.YtohcibmlkngaeaaG6
namespace Go.Proofs.Ytohcibmlkngaeaa
open Go.RowKit Go.Maps
set_option maxRecDepth 20000
set_option linter.unusedVariables false
set_option linter.unusedSimpArgs false

theorem f34_any (t : Int) (o : Bool) (w : World) : Calls Try.prog 34 #[.int .i64 t, .bool o] w fun r w' => r = .returned (.bool (Sf t o)) ∧ w' = w := by
  by_cases e : t = 2
  · subst e
    go_enter Try.func34, Try.ntmps34
    go_wp2
    go_ret
    exact ⟨rfl, rfl⟩
  · have e2 : Sf t o = false := by simp [Sf, e]
    rw [e2]
    go_enter Try.func34, Try.ntmps34
    go_wp2
    go_ret
    refine ⟨?_, rfl⟩
    simp [e]
theorem f49_any (t : Int) (o : Bool) (w : World) : Calls Try.prog 49 #[.int .i64 t, .bool o] w fun r w' => r = .returned (.bool (Su t o)) ∧ w' = w := by
  by_cases e : t = 3
  · subst e
    go_enter Try.func49, Try.ntmps49
    go_wp2
    go_ret
    exact ⟨rfl, rfl⟩
  · have e2 : Su t o = true := by simp [Su, e]
    rw [e2]
    go_enter Try.func49, Try.ntmps49
    go_wp2
    go_ret
    refine ⟨?_, rfl⟩
    simp [e]
theorem f36_any (t : Int) (o : Bool) (w : World) : Calls Try.prog 36 #[.int .i64 t, .bool o] w fun r w' => r = .returned (.bool (Si t o)) ∧ w' = w := by
  by_cases e : t = 1
  · subst e
    go_enter Try.func36, Try.ntmps36
    go_wp2
    go_ret
    simp [Si]
  · have e2 : Si t o = false := by simp [Si, e]
    rw [e2]
    go_enter Try.func36, Try.ntmps36
    go_wp2
    go_ret
    exact ⟨rfl, rfl⟩
theorem f47_any (G : Nat) (k t : Int) (o : Bool) (w : World) (h : w.heap[G]? = some (.cells #[.int .i64 k] 58 (0, 0))) : Calls Try.prog 47 #[.int .i64 t, .bool o, .pointer (some ⟨G, 0, none⟩)] w fun r w' => r = .returned (.bool (So k t o)) ∧ w' = w := by
  have c := cell_of_row w G 0 _ _ _ h
  simp at c
  clear h
  by_cases e : t = k
  · subst e
    have e2 : So t t o = o := by simp [So]
    rw [e2]
    go_enter Try.func47, Try.ntmps47
    go_wp2
    go_ret
    exact ⟨rfl, rfl⟩
  · have e2 : So k t o = false := by simp [So, e]
    rw [e2]
    go_enter Try.func47, Try.ntmps47
    go_wp2
    go_ret
    exact ⟨rfl, rfl⟩
theorem outgoing_any (k : Int) (w : World) : Calls Try.prog 35 #[.int .i64 k] w fun r w' => r = .returned (.func (.func 47) #[] #[.pointer (some ⟨w.heap.size, 0, none⟩)]) ∧ w' = w.alloc (.cells #[.int .i64 k] 58) := by
  go_enter Try.func35, Try.ntmps35
  go_wp2
  go_ret
  exact ⟨rfl, rfl⟩
set_option maxHeartbeats 2000000 in
theorem full_any (L M n a : Nat) (l : List Rw) (w : World) (h : Gr w L M n l) (hI : Inv l) (hn : n ≤ 1000) (ha : u32ok a) :
    Calls Try.prog 40 #[gp L, u a] w fun r w' => r = .returned (.bool (decide (16 ≤ cw l a))) ∧ Below w.heap.size w w' := by
  obtain ⟨D, hG, hN, hs⟩ := h
  have H1 := Lib.hid (others_49 L M a Su D (tie l) w hG hN hI.nok ha (by omega) (dj_u hI a) (fun W t o _ => f49_any t o W))
  obtain ⟨m, hm⟩ : ∃ m, m = cw l a := ⟨_, rfl⟩
  have HL : Hid (∀ ys, Oth (tie l) a Su ys → ys.length = m) := fun ys h => by rw [hm]; exact oth_full hI h
  rw [← hm]
  clear hG hN hm hI
  by_cases e : 16 ≤ m
  · have e1 : decide (16 ≤ m) = true := by simp [e]
    have e2 : (16 : Int) ≤ m := by omega
    rw [e1]
    go_enter Try.func40, Try.ntmps40
    go_wp2_with fail
    refine H1.out.mono ?_
    rintro r w' ⟨v, ys, rfl, ho, hown, hb⟩
    have hl := HL.out ys ho
    obtain ⟨A, c, rfl⟩ := own_form1 hown
    have HB := Lib.hid hb
    rw [hl]
    clear ho hown hb hl
    go_wp2
    go_ret
    refine ⟨?_, HB.out⟩
    first | rfl | (simp; omega)
  · have e1 : decide (16 ≤ m) = false := by simp [e]
    have e2 : ¬ (16 : Int) ≤ m := by omega
    rw [e1]
    go_enter Try.func40, Try.ntmps40
    go_wp2_with fail
    refine H1.out.mono ?_
    rintro r w' ⟨v, ys, rfl, ho, hown, hb⟩
    have hl := HL.out ys ho
    obtain ⟨A, c, rfl⟩ := own_form1 hown
    have HB := Lib.hid hb
    rw [hl]
    clear ho hown hb hl
    go_wp2
    go_ret
    refine ⟨?_, HB.out⟩
    first | rfl | (simp; omega)
/-- A row of numbers of one's own, rising. -/
def Ow (B : Nat) (v : Value) (ys : List Nat) (w : World) : Prop := w.ownsRow B 26 1 v ys.length (un ys)
theorem Ow.after {B : Nat} {v : Value} {ys : List Nat} {w w' : World} (h : Ow B v ys w) (hb : Below w.heap.size w w') : Ow B v ys w' := own_after h fun g hg => hb.block g (ownlt h g hg).2
theorem Ow.base {B B' : Nat} {v : Value} {ys : List Nat} {w : World} (h : Ow B v ys w) (hb : B' ≤ B) : Ow B' v ys w := by
  refine ⟨h.1, ?_⟩
  rcases h.2 with hn | ⟨g, cap, cur, rfl, hbg, rest⟩
  · exact .inl hn
  · exact .inr ⟨g, cap, cur, rfl, Nat.le_trans hb hbg, rest⟩
abbrev four (W : World) (T : Nat) (v1 v2 v3 v4 : Value) : World := (((W.setCell ⟨T, 0, none⟩ v1).setCell ⟨T, 1, none⟩ v2).setCell ⟨T, 2, none⟩ v3).setCell ⟨T, 3, none⟩ v4
theorem four_row {W : World} {T : Nat} {a b c d : Value} (v1 v2 v3 v4 : Value) (h : W.heap[T]? = some (.cells #[a, b, c, d] 38 (0, 0))) : (four W T v1 v2 v3 v4).heap[T]? = some (.cells #[v1, v2, v3, v4] 38 (0, 0)) := by
  have h1 := heap_setCell_same W T 0 _ 38 v1 h
  have h2 := heap_setCell_same _ T 1 _ 38 v2 h1
  have h3 := heap_setCell_same _ T 2 _ 38 v3 h2
  have h4 := heap_setCell_same _ T 3 _ 38 v4 h3
  simpa using h4
theorem four_other {W : World} {T g : Nat} (v1 v2 v3 v4 : Value) (hg : g ≠ T) : (four W T v1 v2 v3 v4).heap[g]? = W.heap[g]? :=
  (Below.heap_setCell _ _ _ _ hg).trans ((Below.heap_setCell _ _ _ _ hg).trans ((Below.heap_setCell _ _ _ _ hg).trans (Below.heap_setCell _ _ _ _ hg)))
theorem four_below {w W : World} {T : Nat} (v1 v2 v3 v4 : Value) (h : Below w.heap.size w W) (hT : w.heap.size ≤ T) : Below w.heap.size w (four W T v1 v2 v3 v4) := (((h.setCell hT _).setCell hT _).setCell hT _).setCell hT _
theorem four_own {W : World} {T B : Nat} {a b c d v : Value} {ys : List Nat} (v1 v2 v3 v4 : Value) (h : W.heap[T]? = some (.cells #[a, b, c, d] 38 (0, 0))) (ho : Ow B v ys W) : Ow B v ys (four W T v1 v2 v3 v4) := own_after ho fun g hg => four_other v1 v2 v3 v4 (fun e => by
  obtain ⟨cur, hc⟩ := own_type ho hg
  rw [e, h] at hc
  injection hc with hc
  injection hc with _ hc
  exact absurd hc (by decide))
abbrev lkV (v1 v2 v3 v4 : Value) : Value := .agg #[v1, v2, v3, v4]
set_option maxHeartbeats 4000000 in
theorem links_any (L M n a : Nat) (l : List Rw) (w : World) (h : Gr w L M n l) (hI : Inv l) (hn : n ≤ 1000) (ha : u32ok a) :
    Calls Try.prog 13 #[gp L, u a] w fun r w' => ∃ v1 v2 v3 v4 y1 y2 y3 y4, r = .returned (lkV v1 v2 v3 v4) ∧ Oth (tie l) a Sf y1 ∧ Oth (tie l) a (So 1) y2 ∧ Oth (tie l) a Si y3 ∧ Oth (tie l) a (So 3) y4 ∧
      Ow w.heap.size v1 y1 w' ∧ Ow w.heap.size v2 y2 w' ∧ Ow w.heap.size v3 y3 w' ∧ Ow w.heap.size v4 y4 w' ∧ Below w.heap.size w w' := by
  obtain ⟨D, hG, hN, hs⟩ := h
  obtain ⟨w0, hw0⟩ : ∃ w0, w0 = w.alloc (.cells #[.slice none 0 0, .slice none 0 0, .slice none 0 0, .slice none 0 0] 38) := ⟨_, rfl⟩
  have hb0 : Below w.heap.size w w0 := by rw [hw0]; exact (Below.refl _ _).alloc (Nat.le_refl _) _
  have hq0 : w0.heap[w.heap.size]? = some (.cells #[.slice none 0 0, .slice none 0 0, .slice none 0 0, .slice none 0 0] 38 (0, 0)) := by rw [hw0]; exact heap_alloc_new w _
  have H34 : Hid (∀ W, Below w.heap.size w W → Calls Try.prog 33 #[gp L, u a, .func (.func 34) #[] #[]] W fun r w' => ∃ v ys, r = .returned v ∧ Oth (tie l) a Sf ys ∧ Ow W.heap.size v ys w' ∧ Below W.heap.size W w') :=
    fun W hW => others_34 L M a Sf D (tie l) W (hG.below hW) hN hI.nok ha (by omega) (dj_f hI a) (fun W t o _ => f34_any t o W)
  have H36 : Hid (∀ W, Below w.heap.size w W → Calls Try.prog 33 #[gp L, u a, .func (.func 36) #[] #[]] W fun r w' => ∃ v ys, r = .returned v ∧ Oth (tie l) a Si ys ∧ Ow W.heap.size v ys w' ∧ Below W.heap.size W w') :=
    fun W hW => others_36 L M a Si D (tie l) W (hG.below hW) hN hI.nok ha (by omega) (dj_i _ a) (fun W t o _ => f36_any t o W)
  have H47 : Hid (∀ W G k, Below w.heap.size w W → W.heap[G]? = some (.cells #[.int .i64 k] 58 (0, 0)) → Calls Try.prog 33 #[gp L, u a, .func (.func 47) #[] #[.pointer (some ⟨G, 0, none⟩)]] W fun r w' => ∃ v ys, r = .returned v ∧ Oth (tie l) a (So k) ys ∧ Ow W.heap.size v ys w' ∧ Below W.heap.size W w') :=
    fun W G k hW hg => others_47 L M a G (So k) D (tie l) W (hG.below hW) hN hI.nok ha (by omega) (dj_o _ a k) (fun V t o hV => f47_any G k t o V ((hV.block G (lt_of_block hg)).trans hg))
  have H0 := Lib.hid hw0
  have HB0 := Lib.hid hb0
  have HQ0 := Lib.hid hq0
  clear hw0 hb0 hq0 hG hN hI
  go_enter Try.func13, Try.ntmps13
  go_upto_region 1 with (fail)
  rw [← H0.out]
  go_wp2_with fail
  refine (H34.out w0 HB0.out).mono ?_
  rintro r w1 ⟨v1, y1, rfl, ho1, hv1, hb1⟩
  obtain ⟨A1, k1, rfl⟩ := own_form1 hv1
  have HV1 : Hid (Oth (tie l) a Sf y1 ∧ Ow w.heap.size (.slice A1 y1.length k1) y1 w1 ∧ Below w.heap.size w w1 ∧ w1.heap[w.heap.size]? = some (.cells #[.slice none 0 0, .slice none 0 0, .slice none 0 0, .slice none 0 0] 38 (0, 0))) := ⟨ho1, hv1.base HB0.out.size, HB0.out.trans (hb1.mono HB0.out.size), (hb1.block _ (lt_of_block HQ0.out)).trans HQ0.out⟩
  clear ho1 hv1 hb1
  go_wp2_with fail
  refine (outgoing_any 1 w1).mono ?_
  rintro r w2 ⟨rfl, hw2⟩
  have hb2 : Below w1.heap.size w1 w2 := by rw [hw2]; exact (Below.refl _ _).alloc (Nat.le_refl _) _
  have hg2 : w2.heap[w1.heap.size]? = some (.cells #[.int .i64 1] 58 (0, 0)) := by rw [hw2]; exact heap_alloc_new w1 _
  have HV2 : Hid (Below w1.heap.size w1 w2 ∧ Below w.heap.size w w2 ∧ w2.heap[w1.heap.size]? = some (.cells #[.int .i64 1] 58 (0, 0))) := ⟨hb2, HV1.out.2.2.1.trans (hb2.mono HV1.out.2.2.1.size), hg2⟩
  clear hw2 hb2 hg2
  go_wp2_with fail
  refine (H47.out w2 _ 1 HV2.out.2.1 HV2.out.2.2).mono ?_
  rintro r w3 ⟨v2, y2, rfl, ho3, hv3, hb3⟩
  obtain ⟨A2, k2, rfl⟩ := own_form1 hv3
  have HB13 : Hid (Below w1.heap.size w1 w3) := HV2.out.1.trans (hb3.mono HV2.out.1.size)
  have HV3 : Hid (Oth (tie l) a (So 1) y2 ∧ Ow w.heap.size (.slice A2 y2.length k2) y2 w3 ∧ Below w.heap.size w w3) := ⟨ho3, hv3.base HV2.out.2.1.size, HV2.out.2.1.trans (hb3.mono HV2.out.2.1.size)⟩
  clear ho3 hv3 hb3
  go_wp2_with fail
  refine (H36.out w3 HV3.out.2.2).mono ?_
  rintro r w4 ⟨v3, y3, rfl, ho4, hv4, hb4⟩
  obtain ⟨A3, k3, rfl⟩ := own_form1 hv4
  have HB34 := Lib.hid hb4
  have HV4 : Hid (Oth (tie l) a Si y3 ∧ Ow w.heap.size (.slice A3 y3.length k3) y3 w4 ∧ Below w.heap.size w w4) := ⟨ho4, hv4.base HV3.out.2.2.size, HV3.out.2.2.trans (hb4.mono HV3.out.2.2.size)⟩
  clear ho4 hv4 hb4
  go_wp2_with fail
  refine (outgoing_any 3 w4).mono ?_
  rintro r w5 ⟨rfl, hw5⟩
  have hb5 : Below w4.heap.size w4 w5 := by rw [hw5]; exact (Below.refl _ _).alloc (Nat.le_refl _) _
  have hg5 : w5.heap[w4.heap.size]? = some (.cells #[.int .i64 3] 58 (0, 0)) := by rw [hw5]; exact heap_alloc_new w4 _
  have HV5 : Hid (Below w4.heap.size w4 w5 ∧ Below w.heap.size w w5 ∧ w5.heap[w4.heap.size]? = some (.cells #[.int .i64 3] 58 (0, 0))) := ⟨hb5, HV4.out.2.2.trans (hb5.mono HV4.out.2.2.size), hg5⟩
  clear hw5 hb5 hg5
  go_wp2_with fail
  refine (H47.out w5 _ 3 HV5.out.2.1 HV5.out.2.2).mono ?_
  rintro r w6 ⟨v4, y4, rfl, ho6, hv6, hb6⟩
  obtain ⟨A4, k4, rfl⟩ := own_form1 hv6
  have HB46 : Hid (Below w4.heap.size w4 w6) := HV5.out.1.trans (hb6.mono HV5.out.1.size)
  have HB36 : Hid (Below w3.heap.size w3 w6) := HB34.out.trans (HB46.out.mono HB34.out.size)
  have HB16 : Hid (Below w1.heap.size w1 w6) := HB13.out.trans (HB36.out.mono HB13.out.size)
  have HV6 : Hid (Oth (tie l) a (So 3) y4 ∧ Ow w.heap.size (.slice A4 y4.length k4) y4 w6 ∧ Below w.heap.size w w6) := ⟨ho6, hv6.base HV5.out.2.1.size, HV5.out.2.1.trans (hb6.mono HV5.out.2.1.size)⟩
  have q : w6.heap[w.heap.size]? = some (.cells #[.slice none 0 0, .slice none 0 0, .slice none 0 0, .slice none 0 0] 38 (0, 0)) := (HB16.out.block _ (lt_of_block HV1.out.2.2.2)).trans HV1.out.2.2.2
  have q0 := cell_of_row w6 w.heap.size 0 _ _ _ q
  have q1 := cell_of_row w6 w.heap.size 1 _ _ _ q
  have q2 := cell_of_row w6 w.heap.size 2 _ _ _ q
  have q3 := cell_of_row w6 w.heap.size 3 _ _ _ q
  simp at q0 q1 q2 q3
  have HQ := Lib.hid q
  have fz : ∀ i, w6.frozen? ⟨w.heap.size, i, none⟩ = false := fun i => frozen_of_row w6 _ i _ _ q
  clear ho6 hv6 hb6 q
  go_wp2
  have e := four_row (.slice A1 y1.length k1) (.slice A2 y2.length k2) (.slice A3 y3.length k3) (.slice A4 y4.length k4) HQ.out
  have e0 := cell_of_row _ w.heap.size 0 _ _ _ e
  have e1 := cell_of_row _ w.heap.size 1 _ _ _ e
  have e2 := cell_of_row _ w.heap.size 2 _ _ _ e
  have e3 := cell_of_row _ w.heap.size 3 _ _ _ e
  simp at e0 e1 e2 e3
  have F : ∀ (v : Value) (ys : List Nat), Ow w.heap.size v ys w6 → Ow w.heap.size v ys (four w6 w.heap.size (.slice A1 y1.length k1) (.slice A2 y2.length k2) (.slice A3 y3.length k3) (.slice A4 y4.length k4)) := fun v ys h => four_own _ _ _ _ HQ.out h
  exact bodyPost_ret (v := lkV (.slice A1 y1.length k1) (.slice A2 y2.length k2) (.slice A3 y3.length k3) (.slice A4 y4.length k4)) (by simp [results, Try.results13, go_sem, e0, e1, e2, e3]) rfl
    ⟨_, _, _, _, y1, y2, y3, y4, rfl, HV1.out.1, HV3.out.1, HV4.out.1, HV6.out.1, F _ _ (HV1.out.2.1.after HB16.out), F _ _ (HV3.out.2.1.after HB36.out), F _ _ (HV4.out.2.1.after HB46.out), F _ _ HV6.out.2.1, four_below _ _ _ _ HV6.out.2.2 (Nat.le_refl _)⟩
set_option maxHeartbeats 4000000 in
theorem links_nil (a : Nat) (w : World) : Calls Try.prog 13 #[.pointer none, u a] w fun r w' => r = .returned (lkV (.slice none 0 0) (.slice none 0 0) (.slice none 0 0) (.slice none 0 0)) ∧ Below w.heap.size w w' := by
  obtain ⟨w0, hw0⟩ : ∃ w0, w0 = w.alloc (.cells #[.slice none 0 0, .slice none 0 0, .slice none 0 0, .slice none 0 0] 38) := ⟨_, rfl⟩
  have hb0 : Below w.heap.size w w0 := by rw [hw0]; exact (Below.refl _ _).alloc (Nat.le_refl _) _
  have hq0 : w0.heap[w.heap.size]? = some (.cells #[.slice none 0 0, .slice none 0 0, .slice none 0 0, .slice none 0 0] 38 (0, 0)) := by rw [hw0]; exact heap_alloc_new w _
  have H0 := Lib.hid hw0
  have HB0 := Lib.hid hb0
  have HQ0 := Lib.hid hq0
  clear hw0 hb0 hq0
  go_enter Try.func13, Try.ntmps13
  go_upto_region 1 with (fail)
  rw [← H0.out]
  go_wp2_with fail
  refine (others_nil a _ _).mono ?_
  rintro r w' ⟨rfl, rfl⟩
  go_wp2_with fail
  refine (outgoing_any 1 _).mono ?_
  rintro r w1 ⟨rfl, hw1⟩
  have hb1 : Below w'.heap.size w' w1 := by rw [hw1]; exact (Below.refl _ _).alloc (Nat.le_refl _) _
  have HB1 := Lib.hid hb1
  clear hw1 hb1
  go_wp2_with fail
  refine (others_nil a _ _).mono ?_
  rintro r w2 ⟨rfl, rfl⟩
  go_wp2_with fail
  refine (others_nil a _ _).mono ?_
  rintro r w3 ⟨rfl, rfl⟩
  go_wp2_with fail
  refine (outgoing_any 3 _).mono ?_
  rintro r w4 ⟨rfl, hw4⟩
  have hb4 : Below w3.heap.size w3 w4 := by rw [hw4]; exact (Below.refl _ _).alloc (Nat.le_refl _) _
  have HB4 : Hid (Below w'.heap.size w' w4) := HB1.out.trans (hb4.mono HB1.out.size)
  clear hw4 hb4
  go_wp2_with fail
  refine (others_nil a _ _).mono ?_
  rintro r w5 ⟨rfl, rfl⟩
  have q : w5.heap[w.heap.size]? = some (.cells #[.slice none 0 0, .slice none 0 0, .slice none 0 0, .slice none 0 0] 38 (0, 0)) := (HB4.out.block _ (lt_of_block HQ0.out)).trans HQ0.out
  have q0 := cell_of_row w5 w.heap.size 0 _ _ _ q
  have q1 := cell_of_row w5 w.heap.size 1 _ _ _ q
  have q2 := cell_of_row w5 w.heap.size 2 _ _ _ q
  have q3 := cell_of_row w5 w.heap.size 3 _ _ _ q
  simp at q0 q1 q2 q3
  have HQ := Lib.hid q
  have fz : ∀ i, w5.frozen? ⟨w.heap.size, i, none⟩ = false := fun i => frozen_of_row w5 _ i _ _ q
  clear q
  go_wp2
  have e := four_row (.slice none 0 0) (.slice none 0 0) (.slice none 0 0) (.slice none 0 0) HQ.out
  have e0 := cell_of_row _ w.heap.size 0 _ _ _ e
  have e1 := cell_of_row _ w.heap.size 1 _ _ _ e
  have e2 := cell_of_row _ w.heap.size 2 _ _ _ e
  have e3 := cell_of_row _ w.heap.size 3 _ _ _ e
  simp at e0 e1 e2 e3
  exact bodyPost_ret (v := lkV (.slice none 0 0) (.slice none 0 0) (.slice none 0 0) (.slice none 0 0)) (by simp [results, Try.results13, go_sem, e0, e1, e2, e3]) rfl ⟨rfl, four_below _ _ _ _ (HB0.out.trans (HB4.out.mono HB0.out.size)) (Nat.le_refl _)⟩
end Go.Proofs.Ytohcibmlkngaeaa
