/- Rack: what is refused; Put, at things. -/
import Derived.Test.YtemjmnpclknfaaaP7
namespace Go.Proofs.Ytemjmnpclknfaaa.P
open Go.RowKit
set_option maxRecDepth 20000

theorem pl_mem {ids : List Nat} {x p : Nat} (hu : Up ids) (hp : Pl ids x p) : x ∈ ids ↔ ids[p]? = some x := by
  obtain ⟨_, h2, h3⟩ := hp
  constructor
  · intro h
    obtain ⟨j, hj⟩ := List.getElem?_of_mem h
    rcases Nat.lt_trichotomy j p with h | h | h
    · have := h2 j x h hj; omega
    · rw [← h]; exact hj
    · obtain ⟨z, hz⟩ : ∃ z, ids[p]? = some z := ⟨ids[p]'(by have := (List.getElem?_eq_some_iff.1 hj).1; omega), List.getElem?_eq_getElem _⟩
      have h4 := hu p j z x h hz hj
      have h5 := h3 p z (Nat.le_refl _) hz
      omega
  · exact fun h => List.mem_of_getElem? h
theorem mz_set (l : List Mk) (p : Nat) (z1 : Sl) (z2 : Sl) (z3 : Int) : mz (l.set p (z1, z2, z3)) = (((mz l).set (p * 3) (.slice z1.a z1.n z1.c)).set (p * 3 + 1) (.slice z2.a z2.n z2.c)).set (p * 3 + 2) (.int .i64 z3) := by
  induction l generalizing p with
  | nil => simp [mz]
  | cons a l ih =>
    rcases p with _ | p
    · simp [mz]
    · have h := ih p
      simp only [mz, List.set_cons_succ, List.flatMap_cons] at h ⊢
      rw [h, show (p + 1) * 3 = (p * 3) + 1 + 1 + 1 by omega, show (p * 3) + 1 + 1 + 1 + 1 = (p * 3 + 1) + 1 + 1 + 1 by omega, show (p * 3) + 1 + 1 + 1 + 2 = (p * 3 + 2) + 1 + 1 + 1 by omega]
      simp only [List.cons_append, List.nil_append, List.set_cons_succ]

set_option maxHeartbeats 1000000 in
theorem lay_id (R p x : Nat) (z1 : Sl) (z2 : Sl) (z3 : Int) (w : World) (hok : ¬(1 ≤ x ∧ x ≤ 2147483647)) :
    Calls Try.prog 82 #[.pointer (some ⟨R, 0, none⟩), .int .i64 (p : Int), .int .u32 (x : Int), mV z1 z2 z3] w fun r w' => r = .returned (.int .i64 14) ∧ Below w.heap.size w w' := by
  have hrd : decide (1 ≤ x ∧ x ≤ 2147483647) = false := by rw [decide_eq_false_iff_not]; exact hok
  have hRT : Hid (∀ W, Calls Try.prog 44 #[.int .u32 (x : Int)] W fun r w' => r = .returned (.bool false) ∧ w' = W) := fun W => by rw [← hrd]; exact right_any x W
  have HB : Hid (Below w.heap.size w (w.alloc (.cells (mC z1 z2 z3) 86))) := (Below.refl _ _).alloc (Nat.le_refl _) _
  clear hrd hok
  go_enter Try.func82, Try.ntmps82
  go_wp2_with fail
  refine (hRT.out _).mono ?_
  rintro r w' ⟨rfl, rfl⟩
  go_wp2
  go_ret
  exact ⟨rfl, HB.out⟩
set_option maxHeartbeats 1000000 in
theorem lay_full (R : Nat) (most : Int) (vi vt : Value) (ids : List Nat) (ths : List Mk) (p x : Nat) (z1 : Sl) (z2 : Sl) (z3 : Int) (w : World) (h : IsR w R most vi vt ids ths) (hok : 1 ≤ x ∧ x ≤ 2147483647) (hf : min most 2147483647 ≤ (ids.length : Int)) :
    Calls Try.prog 82 #[.pointer (some ⟨R, 0, none⟩), .int .i64 (p : Int), .int .u32 (x : Int), mV z1 z2 z3] w fun r w' => r = .returned (.int .i64 10) ∧ Below w.heap.size w w' := by
  have hrd : decide (1 ≤ x ∧ x ≤ 2147483647) = true := by rw [decide_eq_true_iff]; exact hok
  have hRT : Hid (∀ W, Calls Try.prog 44 #[.int .u32 (x : Int)] W fun r w' => r = .returned (.bool true) ∧ w' = W) := fun W => by rw [← hrd]; exact right_any x W
  obtain ⟨w0, hw0⟩ : ∃ w0, w0 = w.alloc (.cells (mC z1 z2 z3) 86) := ⟨_, rfl⟩
  have hb0 : Below w.heap.size w w0 := by rw [hw0]; exact (Below.refl _ _).alloc (Nat.le_refl _) _
  have HF := Lib.hid (full_any R most vi vt ids ths w0 (h.after hb0))
  have hfd : decide (min most 2147483647 ≤ (ids.length : Int)) = true := by rw [decide_eq_true_iff]; exact hf
  rw [hfd] at HF
  have HB := Lib.hid hb0
  have H0 := Lib.hid hw0
  clear hrd hok hfd hf h hb0 hw0
  go_enter Try.func82, Try.ntmps82
  go_upto_region 1 with (fail)
  rw [← H0.out]
  go_wp2_with fail
  refine (hRT.out _).mono ?_
  rintro r w' ⟨rfl, rfl⟩
  go_wp2_with fail
  refine HF.out.mono ?_
  rintro r w1 ⟨rfl, hb1⟩
  go_wp2
  go_ret
  exact ⟨rfl, HB.out.trans (hb1.mono HB.out.size)⟩

/-- Put where nothing stands, told by what lay answers. -/
theorem put_core (R : Nat) (most : Int) (vi vt : Value) (ids : List Nat) (ths : List Mk) (x : Nat) (z1 : Sl) (z2 : Sl) (z3 : Int) (w : World) (h : IsR w R most vi vt ids ths) (hl : ids.length ≤ 1000) (hx : x ∉ ids) (Q : Ending → World → Prop)
    (hlay : ∀ p W, Below w.heap.size w W → Pl ids x p → ids[p]? ≠ some x → Calls Try.prog 82 #[.pointer (some ⟨R, 0, none⟩), .int .i64 (p : Int), .int .u32 (x : Int), mV z1 z2 z3] W fun r w' => ∃ c, r = .returned (.int .i64 c) ∧ Q r w') :
    Calls Try.prog 51 #[.pointer (some ⟨R, 0, none⟩), .int .u32 (x : Int), mV z1 z2 z3] w Q := by
  obtain ⟨w0, hw0⟩ : ∃ w0, w0 = w.alloc (.cells (mC z1 z2 z3) 86) := ⟨_, rfl⟩
  have hb0 : Below w.heap.size w w0 := by rw [hw0]; exact (Below.refl _ _).alloc (Nat.le_refl _) _
  have hq0 : w0.heap[w.heap.size]? = some (.cells (mC z1 z2 z3) 86 (0, 0)) := by rw [hw0]; exact heap_alloc_new w _
  have c0 := cell_of_row w0 w.heap.size 0 _ _ _ hq0
  have c1 := cell_of_row w0 w.heap.size 1 _ _ _ hq0
  have c2 := cell_of_row w0 w.heap.size 2 _ _ _ hq0
  simp at c0 c1 c2
  have HP := Lib.hid (place_any R most vi vt ids ths x w0 (h.after hb0) hl)
  have HL := Lib.hid hlay
  have HU := Lib.hid h.up
  have HX := Lib.hid hx
  have HB := Lib.hid hb0
  have H0 := Lib.hid hw0
  clear h hl hlay hx hb0 hw0 hq0
  go_enter Try.func51, Try.ntmps51
  go_upto_region 1 with (fail)
  rw [← H0.out]
  go_wp2_with fail
  refine HP.out.mono ?_
  rintro r w' ⟨rfl, p, hp, rfl⟩
  have hne : ids[p]? ≠ some x := fun e => HX.out ((pl_mem HU.out hp).2 e)
  have hd : decide (ids[p]? = some x) = false := by rw [decide_eq_false_iff_not]; exact hne
  have HLp := Lib.hid (HL.out p _ HB.out hp hne)
  clear hne hp
  rw [hd]
  go_wp2_with fail
  refine HLp.out.mono ?_
  rintro r w1 ⟨c, rfl, hq⟩
  have HQ := Lib.hid hq
  clear hq
  go_wp2
  exact HQ.out
theorem put_id (R : Nat) (most : Int) (vi vt : Value) (ids : List Nat) (ths : List Mk) (x : Nat) (z1 : Sl) (z2 : Sl) (z3 : Int) (w : World) (h : IsR w R most vi vt ids ths) (hl : ids.length ≤ 1000) (hok : ¬(1 ≤ x ∧ x ≤ 2147483647)) :
    Calls Try.prog 51 #[.pointer (some ⟨R, 0, none⟩), .int .u32 (x : Int), mV z1 z2 z3] w fun r w' => r = .returned (.int .i64 14) ∧ Below w.heap.size w w' :=
  put_core R most vi vt ids ths x z1 z2 z3 w h hl (fun hx => hok (h.ok x hx)) _ fun p W hB _ _ => (lay_id R p x z1 z2 z3 W hok).mono fun _ _ ⟨h1, h2⟩ => ⟨14, h1, h1, hB.trans (h2.mono hB.size)⟩
theorem put_full (R : Nat) (most : Int) (vi vt : Value) (ids : List Nat) (ths : List Mk) (x : Nat) (z1 : Sl) (z2 : Sl) (z3 : Int) (w : World) (h : IsR w R most vi vt ids ths) (hl : ids.length ≤ 1000) (hx : x ∉ ids) (hok : 1 ≤ x ∧ x ≤ 2147483647) (hf : min most 2147483647 ≤ (ids.length : Int)) :
    Calls Try.prog 51 #[.pointer (some ⟨R, 0, none⟩), .int .u32 (x : Int), mV z1 z2 z3] w fun r w' => r = .returned (.int .i64 10) ∧ Below w.heap.size w w' :=
  put_core R most vi vt ids ths x z1 z2 z3 w h hl hx _ fun p W hB _ _ => (lay_full R most vi vt ids ths p x z1 z2 z3 W (h.after hB) hok hf).mono fun _ _ ⟨h1, h2⟩ => ⟨10, h1, h1, hB.trans (h2.mono hB.size)⟩
theorem ChR.from_below {R : Nat} {vi vt : Value} {w W w' : World} (hR : R ≤ w.heap.size) (hB : Below w.heap.size w W) (h : ChR R vi vt W w') : ChR R vi vt w w' :=
  ⟨(hB.mono hR).trans h.1, Nat.le_trans hB.size h.2.1, fun g a1 a2 a3 a4 => (h.2.2 g (Nat.lt_of_lt_of_le a1 hB.size) a2 a3 a4).trans (hB.block g a1)⟩
theorem put_new (R : Nat) (most : Int) (vi vt : Value) (ids : List Nat) (ths : List Mk) (x : Nat) (z1 : Sl) (z2 : Sl) (z3 : Int) (w : World) (h : IsR w R most vi vt ids ths) (hl : ids.length < 1000) (hx : x ∉ ids) (hok : 1 ≤ x ∧ x ≤ 2147483647) (hf : (ids.length : Int) < min most 2147483647) :
    Calls Try.prog 51 #[.pointer (some ⟨R, 0, none⟩), .int .u32 (x : Int), mV z1 z2 z3] w fun r w' => r = .returned (.int .i64 0) ∧ ChR R vi vt w w' ∧ ∃ p vi' vt', Pl ids x p ∧ Fz vi vi' w ∧ IsR w' R most vi' vt' (ids.take p ++ [x] ++ ids.drop p) (ths.take p ++ [(z1, z2, z3)] ++ ths.drop p) :=
  put_core R most vi vt ids ths x z1 z2 z3 w h (Nat.le_of_lt hl) hx _ fun p W hB hp hne => (lay_ok R most vi vt ids ths p x z1 z2 z3 W (h.after hB) hl hp hne hok hf).mono fun _ _ ⟨h1, h2, vi', vt', hz, h3⟩ => ⟨0, h1, h1, ChR.from_below (Nat.le_of_lt (lt_of_block h.row)) hB h2, p, vi', vt', hp, (fun g hg => (hz g hg).imp id (Nat.le_trans hB.size)), h3⟩

set_option linter.unusedSimpArgs false in
set_option maxHeartbeats 2000000 in
theorem put_there (R : Nat) (most : Int) (vi vt : Value) (ids : List Nat) (ths : List Mk) (x : Nat) (z1 : Sl) (z2 : Sl) (z3 : Int) (w : World) (h : IsR w R most vi vt ids ths) (hl : ids.length ≤ 1000) (hx : x ∈ ids) :
    Calls Try.prog 51 #[.pointer (some ⟨R, 0, none⟩), .int .u32 (x : Int), mV z1 z2 z3] w fun r w' => r = .returned (.int .i64 0) ∧ ChR R vi vt w w' ∧ ∃ p, ids[p]? = some x ∧ IsR w' R most vi vt ids (ths.set p (z1, z2, z3)) := by
  obtain ⟨w0, hw0⟩ : ∃ w0, w0 = w.alloc (.cells (mC z1 z2 z3) 86) := ⟨_, rfl⟩
  have hb0 : Below w.heap.size w w0 := by rw [hw0]; exact (Below.refl _ _).alloc (Nat.le_refl _) _
  have hq0 : w0.heap[w.heap.size]? = some (.cells (mC z1 z2 z3) 86 (0, 0)) := by rw [hw0]; exact heap_alloc_new w _
  obtain ⟨B, hB⟩ : ∃ B, B = w.heap.size := ⟨_, rfl⟩
  have HVT : Hid (∀ g, vt.ownBlock = some g → g < B) := fun g hg => by rw [hB]; exact (ownlt h.rto g hg).2
  have HRB : Hid (R < B) := by rw [hB]; exact lt_of_block h.row
  rw [← hB] at hq0
  have h0 := h.after hb0
  have HP := Lib.hid (place_any R most vi vt ids ths x w0 h0 hl)
  have HH := Lib.hid h0
  have HX := Lib.hid hx
  have hn0 : 0 < ids.length := List.length_pos_of_mem hx
  rcases h0.rto.2 with ⟨_, h00⟩ | ⟨g, cap, cur, rfl, hbg, hh, hnc, hcm, hcs, ht⟩
  · omega
  have HGB : Hid (g < B) := HVT.out g rfl
  have HCHR : Hid (∀ w', ChR R vi (.slice (some ⟨g, 0, none⟩) ids.length cap) w0 w' → ChR R vi (.slice (some ⟨g, 0, none⟩) ids.length cap) w w') := fun w' hc => ChR.from_below (Nat.le_of_lt (lt_of_block h.row)) hb0 hc
  obtain ⟨n, hn⟩ : ∃ n, n = ids.length := ⟨_, rfl⟩
  have hrow := h0.row
  rw [← hn] at hnc ht hrow HCHR ⊢
  have HG : Hid (w0.heap[g]? = some (.cells cur 86 (0, 0))) := hh
  have HN := Lib.hid hn
  have HBG := Lib.hid hbg
  have HT := Lib.hid ht
  have HCS := Lib.hid hcs
  have HNC := Lib.hid hnc
  have HCM := Lib.hid hcm
  have HRow := Lib.hid hrow
  have HQ0 := Lib.hid hq0
  have H0 : Hid (w0 = w.alloc (.cells (mC z1 z2 z3) 86)) := hw0
  have HBW := Lib.hid hB
  clear h h0 hx hl hh hbg hcm hcs ht hn hn0 hrow hnc hq0 hw0 hb0 hB
  go_enter Try.func51, Try.ntmps51
  go_upto_region 1 with (fail)
  rw [← H0.out, ← HBW.out]
  go_wp2_with fail
  refine HP.out.mono ?_
  rintro r w' ⟨rfl, p, hp, rfl⟩
  have hget := (pl_mem HH.out.up hp).1 HX.out
  have hd : decide (ids[p]? = some x) = true := by rw [decide_eq_true_iff]; exact hget
  have hpn : p < n := by have := (List.getElem?_eq_some_iff.1 hget).1; have := HN.out; omega
  have HPN : Hid ((0 : Int) ≤ (p : Int) ∧ (p : Int) < (n : Int)) := ⟨by omega, by omega⟩
  obtain ⟨V, hV⟩ : ∃ V, V = w'.drew := ⟨_, rfl⟩
  have hgV : V.heap[g]? = some (.cells cur 86 (0, 0)) := by rw [hV]; exact HG.out
  have hsz : cur.size = cap * 3 := HCS.out
  have hnc : n ≤ cap := HNC.out
  have HDD : Hid (V.cell? ⟨g, p * 3, none⟩ = some (cur[p * 3]'(by omega)) ∧ V.cell? ⟨g, p * 3 + 1, none⟩ = some (cur[p * 3 + 1]'(by omega)) ∧ V.cell? ⟨g, p * 3 + 2, none⟩ = some (cur[p * 3 + 2]'(by omega))) := by
    refine ⟨?_, ?_, ?_⟩ <;>
    · rw [cell_of_row V g _ _ _ _ hgV]
      exact Array.getElem?_eq_getElem _
  have HFG : Hid (∀ i, V.frozen? ⟨g, i, none⟩ = false) := fun i => frozen_of_row V _ i _ _ hgV
  have HGET := Lib.hid hget
  have hs1 := heap_setCell_same V g (p * 3) cur 86 (.slice z1.a z1.n z1.c) hgV
  have hs2 := heap_setCell_same _ g (p * 3 + 1) _ 86 (.slice z2.a z2.n z2.c) hs1
  have hs3 := heap_setCell_same _ g (p * 3 + 2) _ 86 (.int .i64 z3) hs2
  have hoth : ∀ k, k ≠ g → (((V.setCell ⟨g, p * 3, none⟩ (.slice z1.a z1.n z1.c)).setCell ⟨g, p * 3 + 1, none⟩ (.slice z2.a z2.n z2.c)).setCell ⟨g, p * 3 + 2, none⟩ (.int .i64 z3)).heap[k]? = w'.heap[k]? := fun k hk => by
    rw [Below.heap_setCell _ _ _ _ hk, Below.heap_setCell _ _ _ _ hk, Below.heap_setCell _ _ _ _ hk, hV]
    rfl
  have hgR : g ≠ R := by have := HBG.out; omega
  have HFIN : Hid (IsR (((V.setCell ⟨g, p * 3, none⟩ (.slice z1.a z1.n z1.c)).setCell ⟨g, p * 3 + 1, none⟩ (.slice z2.a z2.n z2.c)).setCell ⟨g, p * 3 + 2, none⟩ (.int .i64 z3)) R most vi (.slice (some ⟨g, 0, none⟩) n cap) ids (ths.set p (z1, z2, z3))) := by
    have h0 := HH.out
    rw [← HN.out] at h0
    refine ⟨(hoth R (fun e => hgR e.symm)).trans h0.row, own_after h0.rio fun k hk => hoth k (fun e => own_apart h0.rio h0.rto (by decide) hk (by rw [e]; rfl)), ?_, by rw [List.length_set]; exact h0.len, h0.up, h0.ok⟩
    rw [← HN.out]
    refine ⟨by rw [mz_length, List.length_set, h0.len, HN.out], .inr ⟨g, cap, _, rfl, HBG.out, hs3, hnc, HCM.out, by rw [Array.size_setIfInBounds, Array.size_setIfInBounds, Array.size_setIfInBounds]; exact hsz, ?_⟩⟩
    rw [Array.toList_setIfInBounds, Array.toList_setIfInBounds, Array.toList_setIfInBounds, List.take_set, List.take_set, List.take_set, HT.out, mz_set]
  have HCH : Hid (ChR R vi (.slice (some ⟨g, 0, none⟩) n cap) w (((V.setCell ⟨g, p * 3, none⟩ (.slice z1.a z1.n z1.c)).setCell ⟨g, p * 3 + 1, none⟩ (.slice z2.a z2.n z2.c)).setCell ⟨g, p * 3 + 2, none⟩ (.int .i64 z3))) := by
    refine HCHR.out _ ⟨?_, ?_, fun k _ _ _ h4 => hoth k (fun e => h4 (by rw [e]; rfl))⟩
    · have hRg : R ≤ g := by have := HBG.out; omega
      have hd0 : Below R w' V := by rw [hV]; exact (Below.refl R w').drew
      exact ((hd0.setCell hRg _).setCell hRg _).setCell hRg _
    · rw [World.size_setCell, World.size_setCell, World.size_setCell, hV]
      exact Nat.le_refl _
  have HSS : Hid (∀ W : World, W.heap[B]? = some (.cells (mC z1 z2 z3) 86 (0, 0)) → W.heap[R]? = some (.cells #[.int .i64 most, vi, .slice (some ⟨g, 0, none⟩) n cap] 136 (0, 0)) → (W.cell? ⟨B, 0, none⟩ = some (.slice z1.a z1.n z1.c) ∧ W.cell? ⟨B, 1, none⟩ = some (.slice z2.a z2.n z2.c) ∧ W.cell? ⟨B, 2, none⟩ = some (.int .i64 z3)) ∧ W.cell? ⟨R, 2, none⟩ = some (.slice (some ⟨g, 0, none⟩) n cap)) := fun W a b => ⟨⟨cell_of_row W _ 0 _ _ _ a, cell_of_row W _ 1 _ _ _ a, cell_of_row W _ 2 _ _ _ a⟩, cell_of_row W _ 2 _ _ _ b⟩
  have HBv : Hid (w'.drew.heap[B]? = some (.cells (mC z1 z2 z3) 86 (0, 0))) := HQ0.out
  have HRv : Hid (w'.drew.heap[R]? = some (.cells #[.int .i64 most, vi, .slice (some ⟨g, 0, none⟩) n cap] 136 (0, 0))) := HRow.out
  have HBf : Hid ((((V.setCell ⟨g, p * 3, none⟩ (.slice z1.a z1.n z1.c)).setCell ⟨g, p * 3 + 1, none⟩ (.slice z2.a z2.n z2.c)).setCell ⟨g, p * 3 + 2, none⟩ (.int .i64 z3)).heap[B]? = some (.cells (mC z1 z2 z3) 86 (0, 0))) := (hoth B (by have := HGB.out; omega)).trans HQ0.out
  have HV := Lib.hid hV
  rw [hd]
  clear hp hget hd hgV hs1 hs2 hs3 hoth hgR hV
  go_upto_region 3 with (fail)
  refine wp_region_held_drew (S := fun W : World => (W.cell? ⟨B, 0, none⟩ = some (.slice z1.a z1.n z1.c) ∧ W.cell? ⟨B, 1, none⟩ = some (.slice z2.a z2.n z2.c) ∧ W.cell? ⟨B, 2, none⟩ = some (.int .i64 z3)) ∧ W.cell? ⟨R, 2, none⟩ = some (.slice (some ⟨g, 0, none⟩) n cap)) (by kernel_rfl) (HSS.out _ HBv.out HRv.out) (fun hHeld => ?_)
  rw [← HV.out] at hHeld ⊢
  refine wpAnyH_take (i := 0) (oi := ?oi0s) (v := ?v0s) ?hi0s ?hs0s ?hf0s ?hr0s ?hQ0s ?hy0s ?hS0s ?h0s
  case hi0s => exact (by simp only [List.getElem?_toArray, List.getElem?_cons_zero]; rfl)
  case hs0s => kernel_rfl
  case hf0s => kernel_rfl
  case hr0s => kernel_rfl
  case hQ0s => exact fun _ _ _ h => h
  case hy0s =>
    refine Or.inl ⟨rfl, ?_⟩
    intro W hSw
    obtain ⟨⟨q0, q1, q2⟩, q3⟩ := hSw
    have u1 := HPN.out
    go_simp
    try with_reducible rfl
  case hS0s => assumption
  try simp only [Act.put, List.setIfInBounds_toArray, List.set_cons_zero, List.set_cons_succ]
  refine wpAnyH_take (i := 1) (oi := ?oi1s) (v := ?v1s) ?hi1s ?hs1s ?hf1s ?hr1s ?hQ1s ?hy1s ?hS1s ?h1s
  case hi1s => exact (by simp only [List.getElem?_toArray, List.getElem?_cons_succ, List.getElem?_cons_zero]; rfl)
  case hs1s => kernel_rfl
  case hf1s => kernel_rfl
  case hr1s => kernel_rfl
  case hQ1s => exact fun _ _ _ h => h
  case hy1s =>
    refine Or.inl ⟨rfl, ?_⟩
    intro W hSw
    obtain ⟨⟨q0, q1, q2⟩, q3⟩ := hSw
    have u1 := HPN.out
    go_simp
    try with_reducible rfl
  case hS1s => assumption
  try simp only [Act.put, List.setIfInBounds_toArray, List.set_cons_zero, List.set_cons_succ]
  refine wpAnyH_take (i := 2) (oi := ?oi2s) (v := ?v2s) ?hi2s ?hs2s ?hf2s ?hr2s ?hQ2s ?hy2s ?hS2s ?h2s
  case hi2s => exact (by simp only [List.getElem?_toArray, List.getElem?_cons_succ, List.getElem?_cons_zero]; rfl)
  case hs2s => kernel_rfl
  case hf2s => kernel_rfl
  case hr2s => kernel_rfl
  case hQ2s => exact fun _ _ _ h => h
  case hy2s =>
    refine Or.inl ⟨rfl, ?_⟩
    intro W hSw
    obtain ⟨⟨q0, q1, q2⟩, q3⟩ := hSw
    have u1 := HPN.out
    go_simp
    try with_reducible rfl
  case hS2s => assumption
  try simp only [Act.put, List.setIfInBounds_toArray, List.set_cons_zero, List.set_cons_succ]
  refine wpAnyH_take (i := 3) (oi := ?oi3s) (v := ?v3s) ?hi3s ?hs3s ?hf3s ?hr3s ?hQ3s ?hy3s ?hS3s ?h3s
  case hi3s => exact (by simp only [List.getElem?_toArray, List.getElem?_cons_succ, List.getElem?_cons_zero]; rfl)
  case hs3s => kernel_rfl
  case hf3s => kernel_rfl
  case hr3s => kernel_rfl
  case hQ3s => exact fun _ _ _ h => h
  case hy3s =>
    refine Or.inl ⟨rfl, ?_⟩
    intro W hSw
    obtain ⟨⟨q0, q1, q2⟩, q3⟩ := hSw
    have u1 := HPN.out
    go_simp
    try with_reducible rfl
  case hS3s => assumption
  try simp only [Act.put, List.setIfInBounds_toArray, List.set_cons_zero, List.set_cons_succ]
  refine wpAnyH_take (i := 4) (oi := ?oi4s) (v := ?v4s) ?hi4s ?hs4s ?hf4s ?hr4s ?hQ4s ?hy4s ?hS4s ?h4s
  case hi4s => exact (by simp only [List.getElem?_toArray, List.getElem?_cons_succ, List.getElem?_cons_zero]; rfl)
  case hs4s => kernel_rfl
  case hf4s => kernel_rfl
  case hr4s => kernel_rfl
  case hQ4s => exact fun _ _ _ h => h
  case hy4s =>
    refine Or.inl ⟨rfl, ?_⟩
    intro W hSw
    obtain ⟨⟨q0, q1, q2⟩, q3⟩ := hSw
    have u1 := HPN.out
    go_simp
    try with_reducible rfl
  case hS4s => assumption
  try simp only [Act.put, List.setIfInBounds_toArray, List.set_cons_zero, List.set_cons_succ]
  refine wpAnyH_take (i := 5) (oi := ?oi5s) (v := ?v5s) ?hi5s ?hs5s ?hf5s ?hr5s ?hQ5s ?hy5s ?hS5s ?h5s
  case hi5s => exact (by simp only [List.getElem?_toArray, List.getElem?_cons_succ, List.getElem?_cons_zero]; rfl)
  case hs5s => kernel_rfl
  case hf5s => kernel_rfl
  case hr5s => kernel_rfl
  case hQ5s => exact fun _ _ _ h => h
  case hy5s =>
    refine Or.inl ⟨rfl, ?_⟩
    intro W hSw
    obtain ⟨⟨q0, q1, q2⟩, q3⟩ := hSw
    have u1 := HPN.out
    go_simp
    try with_reducible rfl
  case hS5s => assumption
  try simp only [Act.put, List.setIfInBounds_toArray, List.set_cons_zero, List.set_cons_succ]
  refine wpAnyH_take (i := 6) (oi := ?oi6s) (v := ?v6s) ?hi6s ?hs6s ?hf6s ?hr6s ?hQ6s ?hy6s ?hS6s ?h6s
  case hi6s => exact (by simp only [List.getElem?_toArray, List.getElem?_cons_succ, List.getElem?_cons_zero]; rfl)
  case hs6s => kernel_rfl
  case hf6s => kernel_rfl
  case hr6s => kernel_rfl
  case hQ6s => exact fun _ _ _ h => h
  case hy6s =>
    refine Or.inl ⟨rfl, ?_⟩
    intro W hSw
    obtain ⟨⟨q0, q1, q2⟩, q3⟩ := hSw
    have u1 := HPN.out
    go_simp
    try with_reducible rfl
  case hS6s => assumption
  try simp only [Act.put, List.setIfInBounds_toArray, List.set_cons_zero, List.set_cons_succ]
  refine wpAnyH_ready (rs := [7]) (by kernel_rfl) (by simp) ?_
  refine AllReadyH.cons (o := _) rfl (fun K hK => ?_) AllReadyH.nil
  have hd := HDD.out
  obtain ⟨hd0, hd1, hd2⟩ := hd
  have fg := HFG.out
  go_simp
  clear hd0 hd1 hd2 fg
  refine hK.out _ _ (HSS.out _ HBf.out HFIN.out.row) (fun hHeld => ?_)
  clear hK K
  try simp only [Act.put, List.setIfInBounds_toArray, List.set_cons_zero, List.set_cons_succ]
  refine wpAnyH_done (by kernel_rfl) ?_ _
  go_wp2_with fail
  go_ret
  exact ⟨rfl, HCH.out, p, HGET.out, HFIN.out⟩
end Go.Proofs.Ytemjmnpclknfaaa.P
