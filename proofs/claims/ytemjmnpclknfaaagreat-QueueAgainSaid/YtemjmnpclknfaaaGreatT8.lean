/- Rack of tickets: lay, Add, Ids. -/
import Derived.Test.YtemjmnpclknfaaaGreatT7
import Derived.Test.YtemjmnpclknfaaaGreatP9
namespace Go.Proofs.YtemjmnpclknfaaaGreat.T
open Go.RowKit
open Go.Proofs.YtemjmnpclknfaaaGreat.P (Sl un)
set_option maxRecDepth 20000
set_option linter.unusedVariables false
set_option linter.unusedSimpArgs false
theorem pl_mem {ids : List Nat} {x p : Nat} (hu : Up ids) (hp : Pl ids x p) : x ∈ ids ↔ ids[p]? = some x := by
  obtain ⟨_, h2, h3⟩ := hp
  constructor
  · intro h
    obtain ⟨j, hj⟩ := List.getElem?_of_mem h
    rcases Nat.lt_trichotomy j p with h | h | h
    · have := h2 j x h hj; omega
    · rw [← h]; exact hj
    · obtain ⟨z, hz⟩ : ∃ z, ids[p]? = some z := ⟨ids[p]'(by have := (List.getElem?_eq_some_iff.1 hj).1; omega), List.getElem?_eq_getElem _⟩
      have h4 := hu p j z x h hz hj
      have h5 := h3 p z (Nat.le_refl _) hz
      omega
  · exact fun h => List.mem_of_getElem? h
set_option maxHeartbeats 1000000 in
theorem lay_id (R p x : Nat) (z1 : Nat) (z2 : Int) (z3 : Sl) (z4 : Int) (z5 : Int) (w : World) (hok : ¬(1 ≤ x ∧ x ≤ 2147483647)) :
    Calls Tryz.prog 62 #[.pointer (some ⟨R, 0, none⟩), .int .i64 (p : Int), .int .u32 (x : Int), mV z1 z2 z3 z4 z5] w fun r w' => r = .returned (.int .i64 14) ∧ Below w.heap.size w w' := by
  have hrd : decide (1 ≤ x ∧ x ≤ 2147483647) = false := by rw [decide_eq_false_iff_not]; exact hok
  have hRT : Hid (∀ W, Calls Tryz.prog 29 #[.int .u32 (x : Int)] W fun r w' => r = .returned (.bool false) ∧ w' = W) := fun W => by rw [← hrd]; exact right_any x W
  have HB : Hid (Below w.heap.size w (w.alloc (.cells (mC z1 z2 z3 z4 z5) 39))) := (Below.refl _ _).alloc (Nat.le_refl _) _
  clear hrd hok
  go_enter Tryz.func62, Tryz.ntmps62
  go_wp2_with fail
  refine (hRT.out _).mono ?_
  rintro r w' ⟨rfl, rfl⟩
  go_wp2
  go_ret
  exact ⟨rfl, HB.out⟩
set_option maxHeartbeats 1000000 in
theorem lay_full (R : Nat) (most : Int) (vi vt : Value) (ids : List Nat) (ths : List Mk) (p x : Nat) (z1 : Nat) (z2 : Int) (z3 : Sl) (z4 : Int) (z5 : Int) (w : World) (h : IsR w R most vi vt ids ths) (hok : 1 ≤ x ∧ x ≤ 2147483647) (hf : min most 2147483647 ≤ (ids.length : Int)) :
    Calls Tryz.prog 62 #[.pointer (some ⟨R, 0, none⟩), .int .i64 (p : Int), .int .u32 (x : Int), mV z1 z2 z3 z4 z5] w fun r w' => r = .returned (.int .i64 10) ∧ Below w.heap.size w w' := by
  have hrd : decide (1 ≤ x ∧ x ≤ 2147483647) = true := by rw [decide_eq_true_iff]; exact hok
  have hRT : Hid (∀ W, Calls Tryz.prog 29 #[.int .u32 (x : Int)] W fun r w' => r = .returned (.bool true) ∧ w' = W) := fun W => by rw [← hrd]; exact right_any x W
  obtain ⟨w0, hw0⟩ : ∃ w0, w0 = w.alloc (.cells (mC z1 z2 z3 z4 z5) 39) := ⟨_, rfl⟩
  have hb0 : Below w.heap.size w w0 := by rw [hw0]; exact (Below.refl _ _).alloc (Nat.le_refl _) _
  have HF := Lib.hid (full_any R most vi vt ids ths w0 (h.after hb0))
  have hfd : decide (min most 2147483647 ≤ (ids.length : Int)) = true := by rw [decide_eq_true_iff]; exact hf
  rw [hfd] at HF
  have HB := Lib.hid hb0
  have H0 := Lib.hid hw0
  clear hrd hok hfd hf h hb0 hw0
  go_enter Tryz.func62, Tryz.ntmps62
  go_upto_region 1 with (fail)
  rw [← H0.out]
  go_wp2_with fail
  refine (hRT.out _).mono ?_
  rintro r w' ⟨rfl, rfl⟩
  go_wp2_with fail
  refine HF.out.mono ?_
  rintro r w1 ⟨rfl, hb1⟩
  go_wp2
  go_ret
  exact ⟨rfl, HB.out.trans (hb1.mono HB.out.size)⟩

theorem ChR.from_below {R : Nat} {vi vt : Value} {w W w' : World} (hR : R ≤ w.heap.size) (hB : Below w.heap.size w W) (h : ChR R vi vt W w') : ChR R vi vt w w' :=
  ⟨(hB.mono hR).trans h.1, Nat.le_trans hB.size h.2.1, fun g a1 a2 a3 a4 => (h.2.2 g (Nat.lt_of_lt_of_le a1 hB.size) a2 a3 a4).trans (hB.block g a1)⟩
/-- Add where nothing stands, told by what lay answers. -/
theorem add_core (R : Nat) (most : Int) (vi vt : Value) (ids : List Nat) (ths : List Mk) (x : Nat) (z1 : Nat) (z2 : Int) (z3 : Sl) (z4 : Int) (z5 : Int) (w : World) (h : IsR w R most vi vt ids ths) (hl : ids.length ≤ 1000) (hx : x ∉ ids) (Q : Ending → World → Prop)
    (hlay : ∀ p W, Below w.heap.size w W → Pl ids x p → ids[p]? ≠ some x → Calls Tryz.prog 62 #[.pointer (some ⟨R, 0, none⟩), .int .i64 (p : Int), .int .u32 (x : Int), mV z1 z2 z3 z4 z5] W fun r w' => ∃ c, r = .returned (.int .i64 c) ∧ Q r w') :
    Calls Tryz.prog 35 #[.pointer (some ⟨R, 0, none⟩), .int .u32 (x : Int), mV z1 z2 z3 z4 z5] w Q := by
  obtain ⟨w0, hw0⟩ : ∃ w0, w0 = w.alloc (.cells (mC z1 z2 z3 z4 z5) 39) := ⟨_, rfl⟩
  have hb0 : Below w.heap.size w w0 := by rw [hw0]; exact (Below.refl _ _).alloc (Nat.le_refl _) _
  have hq0 : w0.heap[w.heap.size]? = some (.cells (mC z1 z2 z3 z4 z5) 39 (0, 0)) := by rw [hw0]; exact heap_alloc_new w _
  have c0 := cell_of_row w0 w.heap.size 0 _ _ _ hq0
  have c1 := cell_of_row w0 w.heap.size 1 _ _ _ hq0
  have c2 := cell_of_row w0 w.heap.size 2 _ _ _ hq0
  have c3 := cell_of_row w0 w.heap.size 3 _ _ _ hq0
  have c4 := cell_of_row w0 w.heap.size 4 _ _ _ hq0
  simp at c0 c1 c2 c3 c4
  have HP := Lib.hid (place_any R most vi vt ids ths x w0 (h.after hb0) hl)
  have HL := Lib.hid hlay
  have HU := Lib.hid h.up
  have HX := Lib.hid hx
  have HB := Lib.hid hb0
  have H0 := Lib.hid hw0
  clear h hl hlay hx hb0 hw0 hq0
  go_enter Tryz.func35, Tryz.ntmps35
  go_upto_region 1 with (fail)
  rw [← H0.out]
  go_wp2_with fail
  refine HP.out.mono ?_
  rintro r w' ⟨rfl, p, hp, rfl⟩
  have hne : ids[p]? ≠ some x := fun e => HX.out ((pl_mem HU.out hp).2 e)
  have hd : decide (ids[p]? = some x) = false := by rw [decide_eq_false_iff_not]; exact hne
  have HLp := Lib.hid (HL.out p _ HB.out hp hne)
  clear hne hp
  rw [hd]
  go_wp2_with fail
  refine HLp.out.mono ?_
  rintro r w1 ⟨c, rfl, hq⟩
  have HQ := Lib.hid hq
  clear hq
  go_wp2
  exact HQ.out
theorem add_full (R : Nat) (most : Int) (vi vt : Value) (ids : List Nat) (ths : List Mk) (x : Nat) (z1 : Nat) (z2 : Int) (z3 : Sl) (z4 : Int) (z5 : Int) (w : World) (h : IsR w R most vi vt ids ths) (hl : ids.length ≤ 1000) (hx : x ∉ ids) (hok : 1 ≤ x ∧ x ≤ 2147483647) (hf : min most 2147483647 ≤ (ids.length : Int)) :
    Calls Tryz.prog 35 #[.pointer (some ⟨R, 0, none⟩), .int .u32 (x : Int), mV z1 z2 z3 z4 z5] w fun r w' => r = .returned (.int .i64 10) ∧ Below w.heap.size w w' :=
  add_core R most vi vt ids ths x z1 z2 z3 z4 z5 w h hl hx _ fun p W hB _ _ => (lay_full R most vi vt ids ths p x z1 z2 z3 z4 z5 W (h.after hB) hok hf).mono fun _ _ ⟨h1, h2⟩ => ⟨10, h1, h1, hB.trans (h2.mono hB.size)⟩
theorem add_new (R : Nat) (most : Int) (vi vt : Value) (ids : List Nat) (ths : List Mk) (x : Nat) (z1 : Nat) (z2 : Int) (z3 : Sl) (z4 : Int) (z5 : Int) (w : World) (h : IsR w R most vi vt ids ths) (hl : ids.length < 1000) (hx : x ∉ ids) (hok : 1 ≤ x ∧ x ≤ 2147483647) (hf : (ids.length : Int) < min most 2147483647) :
    Calls Tryz.prog 35 #[.pointer (some ⟨R, 0, none⟩), .int .u32 (x : Int), mV z1 z2 z3 z4 z5] w fun r w' => r = .returned (.int .i64 0) ∧ ChR R vi vt w w' ∧ ∃ p vi' vt', Pl ids x p ∧ Fz vi vi' w ∧ IsR w' R most vi' vt' (ids.take p ++ [x] ++ ids.drop p) (ths.take p ++ [(z1, z2, z3, z4, z5)] ++ ths.drop p) :=
  add_core R most vi vt ids ths x z1 z2 z3 z4 z5 w h (Nat.le_of_lt hl) hx _ fun p W hB hp hne => (lay_ok R most vi vt ids ths p x z1 z2 z3 z4 z5 W (h.after hB) hl hp hne hok hf).mono fun _ _ ⟨h1, h2, vi', vt', hz, h3⟩ => ⟨0, h1, h1, ChR.from_below (Nat.le_of_lt (lt_of_block h.row)) hB h2, p, vi', vt', hp, (fun g hg => (hz g hg).imp id (Nat.le_trans hB.size)), h3⟩

set_option maxHeartbeats 2000000 in
theorem add_there (R : Nat) (most : Int) (vi vt : Value) (ids : List Nat) (ths : List Mk) (x : Nat) (z1 : Nat) (z2 : Int) (z3 : Sl) (z4 : Int) (z5 : Int) (w : World) (h : IsR w R most vi vt ids ths) (hl : ids.length ≤ 1000) (hx : x ∈ ids) :
    Calls Tryz.prog 35 #[.pointer (some ⟨R, 0, none⟩), .int .u32 (x : Int), mV z1 z2 z3 z4 z5] w fun r w' => r = .returned (.int .i64 11) ∧ Below w.heap.size w w' := by
  obtain ⟨w0, hw0⟩ : ∃ w0, w0 = w.alloc (.cells (mC z1 z2 z3 z4 z5) 39) := ⟨_, rfl⟩
  have hb0 : Below w.heap.size w w0 := by rw [hw0]; exact (Below.refl _ _).alloc (Nat.le_refl _) _
  have HP := Lib.hid (place_any R most vi vt ids ths x w0 (h.after hb0) hl)
  have HU := Lib.hid h.up
  have HX := Lib.hid hx
  have HB := Lib.hid hb0
  have H0 := Lib.hid hw0
  clear h hl hx hb0 hw0
  go_enter Tryz.func35, Tryz.ntmps35
  go_upto_region 1 with (fail)
  rw [← H0.out]
  go_wp2_with fail
  refine HP.out.mono ?_
  rintro r w' ⟨rfl, p, hp, rfl⟩
  have hd : decide (ids[p]? = some x) = true := by rw [decide_eq_true_iff]; exact (pl_mem HU.out hp).1 HX.out
  clear hp
  rw [hd]
  go_wp2
  go_ret
  exact ⟨rfl, HB.out⟩
set_option maxHeartbeats 1000000 in
theorem ids_any (R : Nat) (most : Int) (vi vt : Value) (ids : List Nat) (ths : List Mk) (w : World) (h : IsR w R most vi vt ids ths) (hl : ids.length ≤ 1000) :
    Calls Tryz.prog 60 #[.pointer (some ⟨R, 0, none⟩)] w fun r w' => ∃ v', r = .returned v' ∧ w'.ownsRow w.heap.size 33 1 v' ids.length (un ids) ∧ Below w.heap.size w w' := by
  have HC := Lib.hid (P.clone_any (R + 1) vi ids w h.rio hl)
  have c1 := cell_of_row w R 1 _ _ _ h.row
  simp at c1
  clear h hl
  go_enter Tryz.func60, Tryz.ntmps60
  go_wp2_with fail
  refine HC.out.mono ?_
  rintro r w1 ⟨v', rfl, h1, h2⟩
  have H1 := Lib.hid h1
  clear h1
  go_wp2
  go_ret
  exact ⟨v', rfl, H1.out, h2⟩
end Go.Proofs.YtemjmnpclknfaaaGreat.T
