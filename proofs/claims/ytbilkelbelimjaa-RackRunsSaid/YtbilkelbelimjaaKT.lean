/- Rack: RackRuns' walk. -/
import Derived.Test.YtbilkelbelimjaaKS
import Derived.Test.YtbilkelbelimjaaK8
import Derived.Deep.Strs
namespace Go.Proofs.Ytbilkelbelimjaa
open Go.RowKit Go.ChangeShapes
set_option maxRecDepth 20000

abbrev Ac := Int × Nat × Int
/-- The acts l are read from A on. -/
def As (w : World) (B : Nat) (A : Option Addr) (l : List Ac) : Prop :=
  0 < l.length → ∃ b o, A = some ⟨b, o, none⟩ ∧ b < B ∧ ∀ i e, l[i]? = some e → w.cell? ⟨b, o + i * 3, none⟩ = some (.int .u8 e.1) ∧ w.cell? ⟨b, o + i * 3 + 1, none⟩ = some (.int .u32 (e.2.1 : Int)) ∧ w.cell? ⟨b, o + i * 3 + 2, none⟩ = some (.int .i64 e.2.2)
theorem open_acts {H : Type} {enc : TypeId × Value → H} {W : World} {r : Reach} {b0 : Nat} {v : Value} {d : DataW H} {q : List MemPlace} (hv : Value.okWide Try.prog W r b0 22 v) (h : DataW.Trod enc Try.prog W 0 (fun _ => true) true 22 v d q) :
    ∃ (u : Option Addr × Nat) (l : List Ac), v = .slice u.1 l.length u.2 ∧ As W W.heap.size u.1 l ∧ l.length ≤ 9223372036854775807 := by
  obtain ⟨A, n, c, rfl⟩ := WideShapes.okWide_slice Try.underlying22 hv
  obtain ⟨fuel, hf⟩ := h
  have c4 : Try.prog.cellsOf 30 = 3 := by kernel_rfl
  have k5 : Try.prog.cellsOf 5 = 1 := by kernel_rfl
  have k28 : Try.prog.cellsOf 28 = 1 := by kernel_rfl
  have k3 : Try.prog.cellsOf 3 = 1 := by kernel_rfl
  rcases Deep.open_slice Try.underlying22 hf with ⟨hcs, _⟩ | ⟨a, len, cap, m, k, D, Pl, hcs, _, hl, hm, hmm, _, hx⟩
  · simp [Value.cells] at hcs
    obtain ⟨rfl, rfl, rfl⟩ := hcs
    exact ⟨(none, 0), [], rfl, fun h => by simp at h, by simp⟩
  · simp [Value.cells] at hcs
    obtain ⟨rfl, rfl, rfl⟩ := hcs
    rw [c4] at hx
    have each : ∀ i, i < n → ∃ e : Ac, W.cell? (a.add (i * 3)) = some (.int .u8 e.1) ∧ W.cell? (a.add (i * 3 + 1)) = some (.int .u32 (e.2.1 : Int)) ∧ W.cell? (a.add (i * 3 + 2)) = some (.int .i64 e.2.2) := fun i hi => by
      obtain ⟨cs', h1, h2⟩ := hx i (by rw [hmm]; simp; omega)
      obtain ⟨_, hlen, hcell⟩ := World.cells?_some h1
      match cs', hlen with
      | [c0, c1, c2], _ =>
        obtain ⟨y0, y1, y2, m', _, _, g0, g1, g2⟩ := Deep.trod_struct3 Try.underlying30 h2
        have g0 : DataW.trod enc Try.prog W 0 (fun _ => true) true m' 5 [c0] = some y0 := by simpa [k5] using g0
        have g1 : DataW.trod enc Try.prog W 0 (fun _ => true) true m' 28 [c1] = some y1 := by simpa [k28] using g1
        have g2 : DataW.trod enc Try.prog W 0 (fun _ => true) true m' 3 [c2] = some y2 := by simpa [k3] using g2
        obtain ⟨x0, e0, _, w0⟩ := DataW.trod_int Try.underlying5 g0
        obtain ⟨x1, e1, _, w1⟩ := DataW.trod_int Try.underlying28 g1
        obtain ⟨x2, e2, _, w2⟩ := DataW.trod_int Try.underlying3 g2
        simp only [List.cons.injEq, and_true] at e0 e1 e2
        subst e0 e1 e2
        have b1 := bounds_u32 w1
        have q0 := hcell 0 (by omega)
        have q1 := hcell 1 (by omega)
        have q2 := hcell 2 (by omega)
        rw [Deep.add_add] at q0 q1 q2
        refine ⟨(x0, x1.toNat, x2), ?_, ?_, ?_⟩
        · simpa using q0
        · simpa [show (x1.toNat : Int) = x1 by omega] using q1
        · simpa using q2
    obtain ⟨f, hf⟩ := Deep.choose_lt each
    refine ⟨(some a, c), (List.range n).map f, by simp, fun h0 => ?_, by unfold maxLen at hm; simp; omega⟩
    simp at h0
    have hc0 := (hf 0 h0).1
    obtain ⟨b, off, spot⟩ := a
    have hspot : spot = none := by simpa [Addr.add] using World.cell?_spot hc0
    subst hspot
    refine ⟨b, off, rfl, World.block_lt_of_cell? W ⟨b, off + 0 * 3, none⟩ (by rw [← Go.WideShapes.add_plain]; exact hc0), fun i e he => ?_⟩
    rw [List.getElem?_map] at he
    obtain ⟨i', hi', rfl⟩ := Option.map_eq_some_iff.1 he
    obtain ⟨hin, rfl⟩ := List.getElem?_eq_some_iff.1 hi'
    simp at hin
    simp only [List.getElem_range]
    have hq := hf i hin
    rw [Go.WideShapes.add_plain, Go.WideShapes.add_plain, Go.WideShapes.add_plain] at hq
    exact ⟨hq.1, by rw [Nat.add_assoc]; exact hq.2.1, by rw [Nat.add_assoc]; exact hq.2.2⟩

/-- How things stand in the law's loop. -/
structure St (w wX : World) (R T : Nat) (M : Int) (vi vt : Value) (ps p0 : Ps) (A : Option Addr) (n c : Nat) (l : Ps) (act : Option (Nat × Int × Nat × Int)) : Prop where
  ir : IsR wX R M vi vt (ps.map (·.1)) (ps.map (·.2))
  tr : wX.heap[T]? = some (.cells #[.slice A n c, .int .i64 M] 27 (0, 0))
  ow : wX.ownsRow w.heap.size 96 2 (.slice A n c) n (D.rr l)
  ln : n = l.length
  pe : l.Perm p0
  lm : (ps.length : Int) ≤ M
  lp : (p0.length : Int) ≤ M
  m40 : M ≤ 40
  bl : Below w.heap.size w wX
  ac : ∀ G d x z, act = some (G, d, x, z) → wX.heap[G]? = some (.cells #[.int .u8 d, .int .u32 ((x : Nat) : Int), .int .i64 z] 30 (0, 0))
  rt : w.heap.size ≤ R ∧ w.heap.size ≤ T
theorem St.nl {w wX : World} {R T : Nat} {M : Int} {vi vt : Value} {ps p0 : Ps} {A : Option Addr} {n c : Nat} {l : Ps} {act : Option (Nat × Int × Nat × Int)} (h : St w wX R T M vi vt ps p0 A n c l act) : n ≤ 40 := by
  have h1 := h.ln
  have h2 := h.pe.length_eq
  have h3 := h.lp
  have h4 := h.m40
  omega
theorem type_ne {w : World} {g k T T' : Nat} {c c' : Array Value} (h : w.heap[g]? = some (.cells c T (0, 0))) (h' : w.heap[k]? = some (.cells c' T' (0, 0))) (hT : T ≠ T') : g ≠ k := fun e => by
  subst e
  rw [h] at h'
  injection h' with h'
  injection h' with _ h'
  exact hT h'
theorem St.after {w wX wY : World} {R T : Nat} {M : Int} {vi vt : Value} {ps p0 : Ps} {A : Option Addr} {n c : Nat} {l : Ps} {act : Option (Nat × Int × Nat × Int)} (h : St w wX R T M vi vt ps p0 A n c l act) (hb : Below wX.heap.size wX wY) : St w wY R T M vi vt ps p0 A n c l act :=
  ⟨h.ir.after hb, (hb.block _ (lt_of_block h.tr)).trans h.tr, D.own2_after h.ow fun g hg => hb.block g (D.own2_lt h.ow g hg).2, h.ln, h.pe, h.lm, h.lp, h.m40, h.bl.trans (hb.mono h.bl.size), fun G d x z e => (hb.block _ (lt_of_block (h.ac G d x z e))).trans (h.ac G d x z e), h.rt⟩
theorem St.noact {w wX : World} {R T : Nat} {M : Int} {vi vt : Value} {ps p0 : Ps} {A : Option Addr} {n c : Nat} {l : Ps} {act : Option (Nat × Int × Nat × Int)} (h : St w wX R T M vi vt ps p0 A n c l act) : St w wX R T M vi vt ps p0 A n c l none :=
  ⟨h.ir, h.tr, h.ow, h.ln, h.pe, h.lm, h.lp, h.m40, h.bl, fun G d x z e => (by cases e), h.rt⟩
theorem St.withact {w wX : World} {R T : Nat} {M : Int} {vi vt : Value} {ps p0 : Ps} {A : Option Addr} {n c : Nat} {l : Ps} {act : Option (Nat × Int × Nat × Int)} (h : St w wX R T M vi vt ps p0 A n c l act) (d : Int) (x : Nat) (z : Int) : St w (wX.alloc (.cells #[.int .u8 d, .int .u32 (x : Int), .int .i64 z] 30)) R T M vi vt ps p0 A n c l (some (wX.heap.size, d, x, z)) := by
  have h' := h.after ((Below.refl _ _).alloc (Nat.le_refl _) (.cells #[.int .u8 d, .int .u32 (x : Int), .int .i64 z] 30))
  refine ⟨h'.ir, h'.tr, h'.ow, h'.ln, h'.pe, h'.lm, h'.lp, h'.m40, h'.bl, fun G d x z e => ?_, h'.rt⟩
  injection e with e
  injection e with e1 e
  injection e with e2 e
  injection e with e3 e4
  subst e1 e2 e3 e4
  exact heap_alloc_new wX _
theorem St.prog {w wX wY : World} {R T : Nat} {M : Int} {vi vt vi' vt' : Value} {ps p0 qs : Ps} {A : Option Addr} {n c : Nat} {l : Ps} {act : Option (Nat × Int × Nat × Int)} (h : St w wX R T M vi vt ps p0 A n c l act) (hc : ChR R vi vt wX wY) (hi : IsR wY R M vi' vt' (qs.map (·.1)) (qs.map (·.2))) (hq : (qs.length : Int) ≤ M) : St w wY R T M vi' vt' qs p0 A n c l act := by
  have keep : ∀ (g : Nat) (cc : Array Value) (TT : Nat), wX.heap[g]? = some (.cells cc TT (0, 0)) → TT ≠ 93 → TT ≠ 28 → TT ≠ 3 → wY.heap[g]? = wX.heap[g]? := fun g cc TT hg h1 h2 h3 => by
    refine hc.2.2 g (lt_of_block hg) (type_ne hg h.ir.row h1) (fun e => ?_) (fun e => ?_)
    · obtain ⟨cur, hcur⟩ := own_type h.ir.rio e.symm
      exact type_ne hg hcur h2 rfl
    · obtain ⟨cur, hcur⟩ := own_type h.ir.rto e.symm
      exact type_ne hg hcur h3 rfl
  refine ⟨hi, (keep T _ 27 h.tr (by decide) (by decide) (by decide)).trans h.tr, D.own2_after h.ow fun g hg => ?_, h.ln, h.pe, hq, h.lp, h.m40, h.bl.trans (hc.1.mono h.rt.1), fun G d x z e => (keep G _ 30 (h.ac G d x z e) (by decide) (by decide) (by decide)).trans (h.ac G d x z e), h.rt⟩
  obtain ⟨cur, hcur⟩ := D.own2_type h.ow hg
  exact keep g cur 96 hcur (by decide) (by decide) (by decide)
theorem St.refd {w wX wY : World} {R T : Nat} {M : Int} {vi vt : Value} {ps p0 : Ps} {A B : Option Addr} {n c m c' : Nat} {l l' : Ps} {act : Option (Nat × Int × Nat × Int)} (h : St w wX R T M vi vt ps p0 A n c l act) (hb : Below wX.heap.size wX wY) (ho : wY.ownsRow w.heap.size 96 2 (.slice B m c') m (D.rr l')) (hm : m = l'.length) (hp : l'.Perm ps) : St w ((wY.setCell ⟨T, 0, none⟩ (.slice B m c')).setCell ⟨T, 1, none⟩ (.int .i64 M)) R T M vi vt ps ps B m c' l' act := by
  have h' := h.after hb
  have keep : ∀ g, g ≠ T → ((wY.setCell ⟨T, 0, none⟩ (.slice B m c')).setCell ⟨T, 1, none⟩ (.int .i64 M)).heap[g]? = wY.heap[g]? := fun g hg => (Below.heap_setCell _ _ _ _ hg).trans (Below.heap_setCell _ _ _ _ hg)
  have hr1 := heap_setCell_same wY T 0 _ 27 (.slice B m c') h'.tr
  have hr2 := heap_setCell_same (wY.setCell ⟨T, 0, none⟩ (.slice B m c')) T 1 _ 27 (.int .i64 M) hr1
  refine ⟨⟨(keep R (type_ne h'.ir.row h'.tr (by decide))).trans h'.ir.row, own_after h'.ir.rio fun g hg => ?_, own_after h'.ir.rto fun g hg => ?_, h'.ir.len, h'.ir.up, h'.ir.ok⟩, by simpa using hr2, D.own2_after ho fun g hg => ?_, hm, hp, h.lm, h.lm, h.m40, (h'.bl.setCell h.rt.2 _).setCell h.rt.2 _, fun G d x z e => (keep G (type_ne (h'.ac G d x z e) h'.tr (by decide))).trans (h'.ac G d x z e), h.rt⟩
  · obtain ⟨cur, hcur⟩ := own_type h'.ir.rio hg
    exact keep g (type_ne hcur h'.tr (by decide))
  · obtain ⟨cur, hcur⟩ := own_type h'.ir.rto hg
    exact keep g (type_ne hcur h'.tr (by decide))
  · obtain ⟨cur, hcur⟩ := D.own2_type ho hg
    exact keep g (type_ne hcur h'.tr (by decide))

set_option linter.unusedSimpArgs false in
set_option maxHeartbeats 20000000 in
theorem rruns_walk (mo : Int) (u : Option Addr × Nat) (acts : List Ac) (w : World) (hs : As w w.heap.size u.1 acts) (hl : acts.length ≤ 9223372036854775807) :
    Calls Try.prog 3 #[.int .i64 mo, .slice u.1 acts.length u.2] w fun r w' => r = .returned (.bool true) ∧ Below w.heap.size w w' := by
  obtain ⟨E, ec⟩ := u
  obtain ⟨N, hN⟩ : ∃ N, N = acts.length := ⟨_, rfl⟩
  simp only at hs ⊢
  rw [← hN] at hl ⊢
  have HA := Lib.hid hs
  have HN := Lib.hid hN
  clear hs hN
  by_cases h1 : 40 < mo
  · have t : decide (mo > 40) = true := by rw [decide_eq_true_iff]; omega
    go_enter Try.func3, Try.ntmps3
    go_wp2
    go_ret
    exact ⟨rfl, Below.refl _ _⟩
  have t : decide (mo > 40) = false := by rw [decide_eq_false_iff_not]; omega
  by_cases h2 : 60 < N
  · have t2 : decide ((N : Int) > 60) = true := by rw [decide_eq_true_iff]; omega
    go_enter Try.func3, Try.ntmps3
    go_wp2
    go_ret
    exact ⟨rfl, Below.refl _ _⟩
  have t2 : decide ((N : Int) > 60) = false := by rw [decide_eq_false_iff_not]; omega
  obtain ⟨y, hy⟩ : ∃ y : Int, y = max 0 mo := ⟨_, rfl⟩
  have hy0 : 0 ≤ y ∧ y ≤ 40 := by omega
  obtain ⟨R, hR⟩ : ∃ R, R = w.heap.size := ⟨_, rfl⟩
  have HNEW := Lib.hid (new_any mo w)
  rw [show max mo 0 = y by omega, ← hR] at HNEW
  have HR := Lib.hid hR
  clear hR
  go_enter Try.func3, Try.ntmps3
  go_wp2_with fail
  refine HNEW.out.mono ?_
  rintro r w1 ⟨rfl, hi1, hb1⟩
  obtain ⟨T, hT⟩ : ∃ T, T = w1.heap.size := ⟨_, rfl⟩
  obtain ⟨w2, hw2⟩ : ∃ w2, w2 = w1.alloc (.cells #[.slice none 0 0, .int .i64 y] 27) := ⟨_, rfl⟩
  have hb2 : Below w1.heap.size w1 w2 := by rw [hw2]; exact (Below.refl _ _).alloc (Nat.le_refl _) _
  have hs1 : R < w1.heap.size := lt_of_block hi1.row
  have HS0 : Hid (St w w2 R T y (.slice none 0 0) (.slice none 0 0) [] [] none 0 0 [] none) := by
    refine ⟨hi1.after hb2, ?_, World.ownsRow_nil w2 _ 96 2, rfl, List.Perm.refl _, by simpa using hy0.1, by simpa using hy0.1, hy0.2, ?_, fun G d x z e => (by cases e), by have := HR.out; omega, by have := HR.out; omega⟩
    · rw [hw2, hT]; exact heap_alloc_new w1 _
    · rw [HR.out] at hb1 hs1
      exact hb1.trans (hb2.mono (Nat.le_of_lt hs1))
  have H2 := Lib.hid hw2
  have HY := Lib.hid hy
  have HT := Lib.hid hT
  clear hb2 hs1 hi1 hb1 hw2
  go_upto_region 4 with (fail)
  rw [← hy, ← hT, ← H2.out]
  clear t t2 hT hy HNEW H2
  go_wp2_with fail
  go_loopw [7] (fun u wr => ∃ (k : Nat) (vi vt : Value) (ps : Ps) (A : Option Addr) (n c : Nat) (l : Ps), k ≤ N ∧ u = .int .i64 (k : Int) ∧ Hid (St w wr R T y vi vt ps ps A n c l none)) (fun u _ => N - (intOf u).toNat)
  case atStart => exact ⟨0, _, _, [], none, 0, 0, [], by omega, rfl, HS0⟩
  case round =>
    obtain ⟨k, vi, vt, ps, A, n, c, l, hk, rfl, HS⟩ := hrel
    by_cases hlt : k < N
    · obtain ⟨⟨d, x, z⟩, he⟩ : ∃ e, acts[k]? = some e := ⟨acts[k]'(by rw [← HN.out]; exact hlt), List.getElem?_eq_getElem _⟩
      obtain ⟨b1, o1, rfl, hb1, ha1⟩ := HA.out (by have := HN.out; omega)
      have dd := ha1 k _ he
      have d0 := (HS.out.bl.cell (p := ⟨b1, _, none⟩) hb1).trans dd.1
      have d1 := (HS.out.bl.cell (p := ⟨b1, _, none⟩) hb1).trans dd.2.1
      have d2 := (HS.out.bl.cell (p := ⟨b1, _, none⟩) hb1).trans dd.2.2
      simp only at d0 d1 d2
      clear he dd ha1 hb1
      obtain ⟨w2, hw2⟩ : ∃ w2, w2 = wr.alloc (.cells #[.int .u8 d, .int .u32 (x : Int), .int .i64 z] 30) := ⟨_, rfl⟩
      have HS2 := Lib.hid (HS.out.withact d x z)
      rw [← hw2] at HS2
      obtain ⟨G, hG⟩ : ∃ G, G = wr.heap.size := ⟨_, rfl⟩
      rw [← hG] at HS2
      have H2 := Lib.hid hw2
      have HG0 := Lib.hid hG
      clear hw2 hG
      rcases (by omega : d = 0 ∨ d = 1 ∨ d = 2 ∨ (¬ d = 0 ∧ ¬ d = 1 ∧ ¬ d = 2)) with rfl | rfl | rfl | ⟨hd0, hd1, hd2⟩
      · go_upto_region 10 with (fail)
        rw [← H2.out, ← HG0.out]
        clear d0 d1 d2
        have HGP := Lib.hid (get_ps R y vi vt ps x w2 HS2.out.ir (by have := HS2.out.lm; omega))
        have t0 := cell_of_row w2 T 0 _ _ _ HS2.out.tr
        have t1 := cell_of_row w2 T 1 _ _ _ HS2.out.tr
        have tf : ∀ i, w2.frozen? ⟨T, i, none⟩ = false := fun i => frozen_of_row w2 _ i _ _ HS2.out.tr
        simp at t0 t1
        have a0 := cell_of_row w2 G 0 _ _ _ (HS2.out.ac _ _ _ _ rfl)
        have a1 := cell_of_row w2 G 1 _ _ _ (HS2.out.ac _ _ _ _ rfl)
        have a2 := cell_of_row w2 G 2 _ _ _ (HS2.out.ac _ _ _ _ rfl)
        simp at a0 a1 a2
        go_wp2_with fail
        refine HGP.out.mono ?_
        rintro r w3 ⟨⟨v, b, rfl, hg⟩, hw3⟩
        subst hw3
        have HG := Lib.hid hg
        have HRG := Lib.hid (rget_any A n c y x v b l ps w3 HS2.out.ln (D.Rs.of_own HS2.out.ow) (by have := HS2.out.nl; omega) HS2.out.pe HS2.out.ir.up hg)
        clear hg
        go_wp2_with fail
        refine HRG.out.mono ?_
        rintro r w4 ⟨rfl, hb4⟩
        have HS4 := Lib.hid (HS2.out.after hb4)
        clear hb4
        clear t0 t1 tf a0 a1 a2
        have t0 := cell_of_row w4 T 0 _ _ _ HS4.out.tr
        have t1 := cell_of_row w4 T 1 _ _ _ HS4.out.tr
        have tf : ∀ i, w4.frozen? ⟨T, i, none⟩ = false := fun i => frozen_of_row w4 _ i _ _ HS4.out.tr
        simp at t0 t1
        have a0 := cell_of_row w4 G 0 _ _ _ (HS4.out.ac _ _ _ _ rfl)
        have a1 := cell_of_row w4 G 1 _ _ _ (HS4.out.ac _ _ _ _ rfl)
        have a2 := cell_of_row w4 G 2 _ _ _ (HS4.out.ac _ _ _ _ rfl)
        simp at a0 a1 a2
        go_wp2_with fail
        refine (put_ps R y vi vt ps x z w4 HS4.out.ir (by have := HS4.out.lm; omega) (by omega)).mono ?_
        rintro r w5 ⟨cd, qs, vi', vt', rfl, hP, hch, hi⟩
        have HPR := Lib.hid hP
        have HS5 := Lib.hid (HS4.out.prog hch hi (hP.len HS4.out.lm))
        have HU4 := Lib.hid HS4.out.ir.up
        have HOK4 : Hid (∀ y ∈ ps.map (·.1), okN y) := HS4.out.ir.ok
        clear hP hch hi
        clear t0 t1 tf a0 a1 a2
        have t0 := cell_of_row w5 T 0 _ _ _ HS5.out.tr
        have t1 := cell_of_row w5 T 1 _ _ _ HS5.out.tr
        have tf : ∀ i, w5.frozen? ⟨T, i, none⟩ = false := fun i => frozen_of_row w5 _ i _ _ HS5.out.tr
        simp at t0 t1
        have a0 := cell_of_row w5 G 0 _ _ _ (HS5.out.ac _ _ _ _ rfl)
        have a1 := cell_of_row w5 G 1 _ _ _ (HS5.out.ac _ _ _ _ rfl)
        have a2 := cell_of_row w5 G 2 _ _ _ (HS5.out.ac _ _ _ _ rfl)
        simp at a0 a1 a2
        have HRP : Hid (Calls Try.prog 16 #[.agg #[.slice A n c, .int .i64 y], .int .u32 (x : Int), .int .i64 z] w5 fun r w' => ∃ B m c' l', r = .returned (.tuple #[.agg #[.slice B m c', .int .i64 y], .int .i64 cd]) ∧ m = l'.length ∧ l'.Perm qs ∧ w'.ownsRow w.heap.size 96 2 (.slice B m c') m (D.rr l') ∧ Below w5.heap.size w5 w') := D.rput_any w.heap.size A n c y x z cd l ps qs w5 HS5.out.ln HS5.out.ow HS5.out.bl.size (by have := HS5.out.nl; omega) HS5.out.pe HU4.out HOK4.out HPR.out
        go_wp2_with fail
        refine HRP.out.mono ?_
        rintro r w6 ⟨B6, m6, c6, l6, rfl, hm6, hpm6, hown6, hb6⟩
        clear t0 t1 tf a0 a1 a2
        have tz := (hb6.block T (lt_of_block HS5.out.tr)).trans HS5.out.tr
        have t0 := cell_of_row w6 T 0 _ _ _ tz
        have t1 := cell_of_row w6 T 1 _ _ _ tz
        have tf : ∀ i, w6.frozen? ⟨T, i, none⟩ = false := fun i => frozen_of_row w6 _ i _ _ tz
        simp at t0 t1
        have HS7 := Lib.hid (HS5.out.refd hb6 hown6 hm6 hpm6)
        obtain ⟨w7, hw7⟩ : ∃ w7, w7 = (w6.setCell ⟨T, 0, none⟩ (.slice B6 m6 c6)).setCell ⟨T, 1, none⟩ (.int .i64 y) := ⟨_, rfl⟩
        rw [← hw7] at HS7
        have H7 := Lib.hid hw7
        clear hb6 hown6 hm6 hpm6 tz hw7
        go_upto_region 27 with (fail)
        rw [← H7.out]
        clear t0 t1 tf
        have t0 := cell_of_row w7 T 0 _ _ _ HS7.out.tr
        have t1 := cell_of_row w7 T 1 _ _ _ HS7.out.tr
        have tf : ∀ i, w7.frozen? ⟨T, i, none⟩ = false := fun i => frozen_of_row w7 _ i _ _ HS7.out.tr
        simp at t0 t1
        have a0 := cell_of_row w7 G 0 _ _ _ (HS7.out.ac _ _ _ _ rfl)
        have a1 := cell_of_row w7 G 1 _ _ _ (HS7.out.ac _ _ _ _ rfl)
        have a2 := cell_of_row w7 G 2 _ _ _ (HS7.out.ac _ _ _ _ rfl)
        simp at a0 a1 a2
        have HNX := Lib.hid (Z.next_at R y vi' vt' (qs.map (·.1)) (qs.map (·.2)) x w7 HS7.out.ir (by rw [List.length_map]; have := HS7.out.lm; omega))
        go_wp2_with fail
        refine HNX.out.mono ?_
        rintro r w8 ⟨⟨m8, hn8, rfl⟩, hw8⟩
        subst hw8
        obtain ⟨b8, hb8⟩ : ∃ b8, b8 = decide (m8 ≠ 0) := ⟨_, rfl⟩
        rw [← hb8]
        have HB8 := Lib.hid hb8
        clear hb8
        have HRX := Lib.hid (D.rnext_any B6 m6 c6 y x l6 w8 HS7.out.ln (D.Rs.of_own HS7.out.ow) (by have := HS7.out.nl; omega))
        go_wp2_with fail
        refine HRX.out.mono ?_
        rintro r w9 ⟨⟨m9, hn9, rfl⟩, hb9⟩
        have hmm := D.nx_one hn8 (D.nx_perm HS7.out.pe hn9)
        subst hmm
        have HS9 := Lib.hid (HS7.out.after hb9)
        clear hb9 hn8 hn9
        clear t0 t1 tf a0 a1 a2
        have t0 := cell_of_row w9 T 0 _ _ _ HS9.out.tr
        have t1 := cell_of_row w9 T 1 _ _ _ HS9.out.tr
        have tf : ∀ i, w9.frozen? ⟨T, i, none⟩ = false := fun i => frozen_of_row w9 _ i _ _ HS9.out.tr
        simp at t0 t1
        have a0 := cell_of_row w9 G 0 _ _ _ (HS9.out.ac _ _ _ _ rfl)
        have a1 := cell_of_row w9 G 1 _ _ _ (HS9.out.ac _ _ _ _ rfl)
        have a2 := cell_of_row w9 G 2 _ _ _ (HS9.out.ac _ _ _ _ rfl)
        simp at a0 a1 a2
        rw [← HB8.out]
        have HLK := Lib.hid (like_any R w.heap.size y vi' vt' B6 m6 c6 l6 qs w9 HS9.out.ir (by omega) HS9.out.ln HS9.out.ow (by have := HS9.out.nl; omega) HS9.out.pe)
        go_wp2_with fail
        refine HLK.out.mono ?_
        rintro r wA ⟨rfl, hbA⟩
        have HSA := Lib.hid (HS9.out.after hbA).noact
        clear hbA
        clear t0 t1 tf a0 a1 a2
        go_wp2
        go_roundw
        case rel => exact ⟨k + 1, vi', vt', qs, B6, m6, c6, l6, by omega, by go_num, HSA⟩
        case measure => simp [intOf] <;> omega
      · go_upto_region 10 with (fail)
        rw [← H2.out, ← HG0.out]
        clear d0 d1 d2
        have HGP := Lib.hid (get_ps R y vi vt ps x w2 HS2.out.ir (by have := HS2.out.lm; omega))
        have t0 := cell_of_row w2 T 0 _ _ _ HS2.out.tr
        have t1 := cell_of_row w2 T 1 _ _ _ HS2.out.tr
        have tf : ∀ i, w2.frozen? ⟨T, i, none⟩ = false := fun i => frozen_of_row w2 _ i _ _ HS2.out.tr
        simp at t0 t1
        have a0 := cell_of_row w2 G 0 _ _ _ (HS2.out.ac _ _ _ _ rfl)
        have a1 := cell_of_row w2 G 1 _ _ _ (HS2.out.ac _ _ _ _ rfl)
        have a2 := cell_of_row w2 G 2 _ _ _ (HS2.out.ac _ _ _ _ rfl)
        simp at a0 a1 a2
        go_wp2_with fail
        refine HGP.out.mono ?_
        rintro r w3 ⟨⟨v, b, rfl, hg⟩, hw3⟩
        subst hw3
        have HG := Lib.hid hg
        have HRG := Lib.hid (rget_any A n c y x v b l ps w3 HS2.out.ln (D.Rs.of_own HS2.out.ow) (by have := HS2.out.nl; omega) HS2.out.pe HS2.out.ir.up hg)
        clear hg
        go_wp2_with fail
        refine HRG.out.mono ?_
        rintro r w4 ⟨rfl, hb4⟩
        have HS4 := Lib.hid (HS2.out.after hb4)
        clear hb4
        clear t0 t1 tf a0 a1 a2
        have t0 := cell_of_row w4 T 0 _ _ _ HS4.out.tr
        have t1 := cell_of_row w4 T 1 _ _ _ HS4.out.tr
        have tf : ∀ i, w4.frozen? ⟨T, i, none⟩ = false := fun i => frozen_of_row w4 _ i _ _ HS4.out.tr
        simp at t0 t1
        have a0 := cell_of_row w4 G 0 _ _ _ (HS4.out.ac _ _ _ _ rfl)
        have a1 := cell_of_row w4 G 1 _ _ _ (HS4.out.ac _ _ _ _ rfl)
        have a2 := cell_of_row w4 G 2 _ _ _ (HS4.out.ac _ _ _ _ rfl)
        simp at a0 a1 a2
        go_wp2_with fail
        refine (add_ps R y vi vt ps x z w4 HS4.out.ir (by have := HS4.out.lm; omega) (by omega)).mono ?_
        rintro r w5 ⟨cd, qs, vi', vt', rfl, hP, hch, hi⟩
        have HPR := Lib.hid hP
        have HS5 := Lib.hid (HS4.out.prog hch hi (hP.len HS4.out.lm))
        have HU4 := Lib.hid HS4.out.ir.up
        have HOK4 : Hid (∀ y ∈ ps.map (·.1), okN y) := HS4.out.ir.ok
        clear hP hch hi
        clear t0 t1 tf a0 a1 a2
        have t0 := cell_of_row w5 T 0 _ _ _ HS5.out.tr
        have t1 := cell_of_row w5 T 1 _ _ _ HS5.out.tr
        have tf : ∀ i, w5.frozen? ⟨T, i, none⟩ = false := fun i => frozen_of_row w5 _ i _ _ HS5.out.tr
        simp at t0 t1
        have a0 := cell_of_row w5 G 0 _ _ _ (HS5.out.ac _ _ _ _ rfl)
        have a1 := cell_of_row w5 G 1 _ _ _ (HS5.out.ac _ _ _ _ rfl)
        have a2 := cell_of_row w5 G 2 _ _ _ (HS5.out.ac _ _ _ _ rfl)
        simp at a0 a1 a2
        have HRP : Hid (Calls Try.prog 18 #[.agg #[.slice A n c, .int .i64 y], .int .u32 (x : Int), .int .i64 z] w5 fun r w' => ∃ B m c' l', r = .returned (.tuple #[.agg #[.slice B m c', .int .i64 y], .int .i64 cd]) ∧ m = l'.length ∧ l'.Perm qs ∧ w'.ownsRow w.heap.size 96 2 (.slice B m c') m (D.rr l') ∧ Below w5.heap.size w5 w') := D.radd_any w.heap.size A n c y x z cd l ps qs w5 HS5.out.ln HS5.out.ow HS5.out.bl.size (by have := HS5.out.nl; omega) HS5.out.pe HU4.out HOK4.out HPR.out
        go_wp2_with fail
        refine HRP.out.mono ?_
        rintro r w6 ⟨B6, m6, c6, l6, rfl, hm6, hpm6, hown6, hb6⟩
        clear t0 t1 tf a0 a1 a2
        have tz := (hb6.block T (lt_of_block HS5.out.tr)).trans HS5.out.tr
        have t0 := cell_of_row w6 T 0 _ _ _ tz
        have t1 := cell_of_row w6 T 1 _ _ _ tz
        have tf : ∀ i, w6.frozen? ⟨T, i, none⟩ = false := fun i => frozen_of_row w6 _ i _ _ tz
        simp at t0 t1
        have HS7 := Lib.hid (HS5.out.refd hb6 hown6 hm6 hpm6)
        obtain ⟨w7, hw7⟩ : ∃ w7, w7 = (w6.setCell ⟨T, 0, none⟩ (.slice B6 m6 c6)).setCell ⟨T, 1, none⟩ (.int .i64 y) := ⟨_, rfl⟩
        rw [← hw7] at HS7
        have H7 := Lib.hid hw7
        clear hb6 hown6 hm6 hpm6 tz hw7
        go_upto_region 27 with (fail)
        rw [← H7.out]
        clear t0 t1 tf
        have t0 := cell_of_row w7 T 0 _ _ _ HS7.out.tr
        have t1 := cell_of_row w7 T 1 _ _ _ HS7.out.tr
        have tf : ∀ i, w7.frozen? ⟨T, i, none⟩ = false := fun i => frozen_of_row w7 _ i _ _ HS7.out.tr
        simp at t0 t1
        have a0 := cell_of_row w7 G 0 _ _ _ (HS7.out.ac _ _ _ _ rfl)
        have a1 := cell_of_row w7 G 1 _ _ _ (HS7.out.ac _ _ _ _ rfl)
        have a2 := cell_of_row w7 G 2 _ _ _ (HS7.out.ac _ _ _ _ rfl)
        simp at a0 a1 a2
        have HNX := Lib.hid (Z.next_at R y vi' vt' (qs.map (·.1)) (qs.map (·.2)) x w7 HS7.out.ir (by rw [List.length_map]; have := HS7.out.lm; omega))
        go_wp2_with fail
        refine HNX.out.mono ?_
        rintro r w8 ⟨⟨m8, hn8, rfl⟩, hw8⟩
        subst hw8
        obtain ⟨b8, hb8⟩ : ∃ b8, b8 = decide (m8 ≠ 0) := ⟨_, rfl⟩
        rw [← hb8]
        have HB8 := Lib.hid hb8
        clear hb8
        have HRX := Lib.hid (D.rnext_any B6 m6 c6 y x l6 w8 HS7.out.ln (D.Rs.of_own HS7.out.ow) (by have := HS7.out.nl; omega))
        go_wp2_with fail
        refine HRX.out.mono ?_
        rintro r w9 ⟨⟨m9, hn9, rfl⟩, hb9⟩
        have hmm := D.nx_one hn8 (D.nx_perm HS7.out.pe hn9)
        subst hmm
        have HS9 := Lib.hid (HS7.out.after hb9)
        clear hb9 hn8 hn9
        clear t0 t1 tf a0 a1 a2
        have t0 := cell_of_row w9 T 0 _ _ _ HS9.out.tr
        have t1 := cell_of_row w9 T 1 _ _ _ HS9.out.tr
        have tf : ∀ i, w9.frozen? ⟨T, i, none⟩ = false := fun i => frozen_of_row w9 _ i _ _ HS9.out.tr
        simp at t0 t1
        have a0 := cell_of_row w9 G 0 _ _ _ (HS9.out.ac _ _ _ _ rfl)
        have a1 := cell_of_row w9 G 1 _ _ _ (HS9.out.ac _ _ _ _ rfl)
        have a2 := cell_of_row w9 G 2 _ _ _ (HS9.out.ac _ _ _ _ rfl)
        simp at a0 a1 a2
        rw [← HB8.out]
        have HLK := Lib.hid (like_any R w.heap.size y vi' vt' B6 m6 c6 l6 qs w9 HS9.out.ir (by omega) HS9.out.ln HS9.out.ow (by have := HS9.out.nl; omega) HS9.out.pe)
        go_wp2_with fail
        refine HLK.out.mono ?_
        rintro r wA ⟨rfl, hbA⟩
        have HSA := Lib.hid (HS9.out.after hbA).noact
        clear hbA
        clear t0 t1 tf a0 a1 a2
        go_wp2
        go_roundw
        case rel => exact ⟨k + 1, vi', vt', qs, B6, m6, c6, l6, by omega, by go_num, HSA⟩
        case measure => simp [intOf] <;> omega
      · go_upto_region 10 with (fail)
        rw [← H2.out, ← HG0.out]
        clear d0 d1 d2
        have HGP := Lib.hid (get_ps R y vi vt ps x w2 HS2.out.ir (by have := HS2.out.lm; omega))
        have t0 := cell_of_row w2 T 0 _ _ _ HS2.out.tr
        have t1 := cell_of_row w2 T 1 _ _ _ HS2.out.tr
        have tf : ∀ i, w2.frozen? ⟨T, i, none⟩ = false := fun i => frozen_of_row w2 _ i _ _ HS2.out.tr
        simp at t0 t1
        have a0 := cell_of_row w2 G 0 _ _ _ (HS2.out.ac _ _ _ _ rfl)
        have a1 := cell_of_row w2 G 1 _ _ _ (HS2.out.ac _ _ _ _ rfl)
        have a2 := cell_of_row w2 G 2 _ _ _ (HS2.out.ac _ _ _ _ rfl)
        simp at a0 a1 a2
        go_wp2_with fail
        refine HGP.out.mono ?_
        rintro r w3 ⟨⟨v, b, rfl, hg⟩, hw3⟩
        subst hw3
        have HG := Lib.hid hg
        have HRG := Lib.hid (rget_any A n c y x v b l ps w3 HS2.out.ln (D.Rs.of_own HS2.out.ow) (by have := HS2.out.nl; omega) HS2.out.pe HS2.out.ir.up hg)
        clear hg
        go_wp2_with fail
        refine HRG.out.mono ?_
        rintro r w4 ⟨rfl, hb4⟩
        have HS4 := Lib.hid (HS2.out.after hb4)
        clear hb4
        clear t0 t1 tf a0 a1 a2
        have t0 := cell_of_row w4 T 0 _ _ _ HS4.out.tr
        have t1 := cell_of_row w4 T 1 _ _ _ HS4.out.tr
        have tf : ∀ i, w4.frozen? ⟨T, i, none⟩ = false := fun i => frozen_of_row w4 _ i _ _ HS4.out.tr
        simp at t0 t1
        have a0 := cell_of_row w4 G 0 _ _ _ (HS4.out.ac _ _ _ _ rfl)
        have a1 := cell_of_row w4 G 1 _ _ _ (HS4.out.ac _ _ _ _ rfl)
        have a2 := cell_of_row w4 G 2 _ _ _ (HS4.out.ac _ _ _ _ rfl)
        simp at a0 a1 a2
        go_wp2_with fail
        refine (drop_ps R y vi vt ps x w4 HS4.out.ir (by have := HS4.out.lm; omega)).mono ?_
        rintro r w5 ⟨v5, b5, qs, vi', vt', rfl, hP, hch, hi⟩
        have hgd := get_drop HS4.out.ir.up HG.out hP
        obtain ⟨rfl, rfl⟩ := hgd
        have HPR := Lib.hid hP
        have HS5 := Lib.hid (HS4.out.prog hch hi (hP.len HS4.out.lm))
        have HU4 := Lib.hid HS4.out.ir.up
        clear hP hch hi
        clear t0 t1 tf a0 a1 a2
        have t0 := cell_of_row w5 T 0 _ _ _ HS5.out.tr
        have t1 := cell_of_row w5 T 1 _ _ _ HS5.out.tr
        have tf : ∀ i, w5.frozen? ⟨T, i, none⟩ = false := fun i => frozen_of_row w5 _ i _ _ HS5.out.tr
        simp at t0 t1
        have a0 := cell_of_row w5 G 0 _ _ _ (HS5.out.ac _ _ _ _ rfl)
        have a1 := cell_of_row w5 G 1 _ _ _ (HS5.out.ac _ _ _ _ rfl)
        have a2 := cell_of_row w5 G 2 _ _ _ (HS5.out.ac _ _ _ _ rfl)
        simp at a0 a1 a2
        have HRP : Hid (Calls Try.prog 20 #[.agg #[.slice A n c, .int .i64 y], .int .u32 (x : Int)] w5 fun r w' => ∃ B m c', r = .returned (.agg #[.slice B m c', .int .i64 y]) ∧ w'.ownsRow w5.heap.size 96 2 (.slice B m c') m (D.rr (D.dropR x l)) ∧ Below w5.heap.size w5 w') := D.rdrop_any A n c y x l w5 HS5.out.ln (D.Rs.of_own HS5.out.ow) (by have := HS5.out.nl; omega)
        go_wp2_with fail
        refine HRP.out.mono ?_
        rintro r w6 ⟨B6, m6, c6, rfl, hown6, hb6⟩
        have hm6 : m6 = (D.dropR x l).length := by have h1 := hown6.1; rw [D.rr_len] at h1; omega
        have hpm6 : (D.dropR x l).Perm qs := HPR.out.perm HU4.out HS5.out.pe
        have hown6 := D.own2_base hown6 HS5.out.bl.size
        obtain ⟨l6, hl6⟩ : ∃ l6, l6 = D.dropR x l := ⟨_, rfl⟩
        rw [← hl6] at hm6 hpm6 hown6
        clear hl6
        clear t0 t1 tf a0 a1 a2
        have tz := (hb6.block T (lt_of_block HS5.out.tr)).trans HS5.out.tr
        have t0 := cell_of_row w6 T 0 _ _ _ tz
        have t1 := cell_of_row w6 T 1 _ _ _ tz
        have tf : ∀ i, w6.frozen? ⟨T, i, none⟩ = false := fun i => frozen_of_row w6 _ i _ _ tz
        simp at t0 t1
        have HS7 := Lib.hid (HS5.out.refd hb6 hown6 hm6 hpm6)
        obtain ⟨w7, hw7⟩ : ∃ w7, w7 = (w6.setCell ⟨T, 0, none⟩ (.slice B6 m6 c6)).setCell ⟨T, 1, none⟩ (.int .i64 y) := ⟨_, rfl⟩
        rw [← hw7] at HS7
        have H7 := Lib.hid hw7
        clear hb6 hown6 hm6 hpm6 tz hw7
        go_upto_region 27 with (fail)
        rw [← H7.out]
        clear t0 t1 tf
        have t0 := cell_of_row w7 T 0 _ _ _ HS7.out.tr
        have t1 := cell_of_row w7 T 1 _ _ _ HS7.out.tr
        have tf : ∀ i, w7.frozen? ⟨T, i, none⟩ = false := fun i => frozen_of_row w7 _ i _ _ HS7.out.tr
        simp at t0 t1
        have a0 := cell_of_row w7 G 0 _ _ _ (HS7.out.ac _ _ _ _ rfl)
        have a1 := cell_of_row w7 G 1 _ _ _ (HS7.out.ac _ _ _ _ rfl)
        have a2 := cell_of_row w7 G 2 _ _ _ (HS7.out.ac _ _ _ _ rfl)
        simp at a0 a1 a2
        have HNX := Lib.hid (Z.next_at R y vi' vt' (qs.map (·.1)) (qs.map (·.2)) x w7 HS7.out.ir (by rw [List.length_map]; have := HS7.out.lm; omega))
        go_wp2_with fail
        refine HNX.out.mono ?_
        rintro r w8 ⟨⟨m8, hn8, rfl⟩, hw8⟩
        subst hw8
        obtain ⟨b8, hb8⟩ : ∃ b8, b8 = decide (m8 ≠ 0) := ⟨_, rfl⟩
        rw [← hb8]
        have HB8 := Lib.hid hb8
        clear hb8
        have HRX := Lib.hid (D.rnext_any B6 m6 c6 y x l6 w8 HS7.out.ln (D.Rs.of_own HS7.out.ow) (by have := HS7.out.nl; omega))
        go_wp2_with fail
        refine HRX.out.mono ?_
        rintro r w9 ⟨⟨m9, hn9, rfl⟩, hb9⟩
        have hmm := D.nx_one hn8 (D.nx_perm HS7.out.pe hn9)
        subst hmm
        have HS9 := Lib.hid (HS7.out.after hb9)
        clear hb9 hn8 hn9
        clear t0 t1 tf a0 a1 a2
        have t0 := cell_of_row w9 T 0 _ _ _ HS9.out.tr
        have t1 := cell_of_row w9 T 1 _ _ _ HS9.out.tr
        have tf : ∀ i, w9.frozen? ⟨T, i, none⟩ = false := fun i => frozen_of_row w9 _ i _ _ HS9.out.tr
        simp at t0 t1
        have a0 := cell_of_row w9 G 0 _ _ _ (HS9.out.ac _ _ _ _ rfl)
        have a1 := cell_of_row w9 G 1 _ _ _ (HS9.out.ac _ _ _ _ rfl)
        have a2 := cell_of_row w9 G 2 _ _ _ (HS9.out.ac _ _ _ _ rfl)
        simp at a0 a1 a2
        rw [← HB8.out]
        have HLK := Lib.hid (like_any R w.heap.size y vi' vt' B6 m6 c6 l6 qs w9 HS9.out.ir (by omega) HS9.out.ln HS9.out.ow (by have := HS9.out.nl; omega) HS9.out.pe)
        go_wp2_with fail
        refine HLK.out.mono ?_
        rintro r wA ⟨rfl, hbA⟩
        have HSA := Lib.hid (HS9.out.after hbA).noact
        clear hbA
        clear t0 t1 tf a0 a1 a2
        go_wp2
        go_roundw
        case rel => exact ⟨k + 1, vi', vt', qs, B6, m6, c6, l6, by omega, by go_num, HSA⟩
        case measure => simp [intOf] <;> omega
      · go_upto_region 10 with (fail)
        rw [← H2.out, ← HG0.out]
        clear d0 d1 d2
        have HGP := Lib.hid (get_ps R y vi vt ps x w2 HS2.out.ir (by have := HS2.out.lm; omega))
        have t0 := cell_of_row w2 T 0 _ _ _ HS2.out.tr
        have t1 := cell_of_row w2 T 1 _ _ _ HS2.out.tr
        have tf : ∀ i, w2.frozen? ⟨T, i, none⟩ = false := fun i => frozen_of_row w2 _ i _ _ HS2.out.tr
        simp at t0 t1
        have a0 := cell_of_row w2 G 0 _ _ _ (HS2.out.ac _ _ _ _ rfl)
        have a1 := cell_of_row w2 G 1 _ _ _ (HS2.out.ac _ _ _ _ rfl)
        have a2 := cell_of_row w2 G 2 _ _ _ (HS2.out.ac _ _ _ _ rfl)
        simp at a0 a1 a2
        go_wp2_with fail
        refine HGP.out.mono ?_
        rintro r w3 ⟨⟨v, b, rfl, hg⟩, hw3⟩
        subst hw3
        have HG := Lib.hid hg
        have HRG := Lib.hid (rget_any A n c y x v b l ps w3 HS2.out.ln (D.Rs.of_own HS2.out.ow) (by have := HS2.out.nl; omega) HS2.out.pe HS2.out.ir.up hg)
        clear hg
        go_wp2_with fail
        refine HRG.out.mono ?_
        rintro r w4 ⟨rfl, hb4⟩
        have HS4 := Lib.hid (HS2.out.after hb4)
        clear hb4
        clear t0 t1 tf a0 a1 a2
        have t0 := cell_of_row w4 T 0 _ _ _ HS4.out.tr
        have t1 := cell_of_row w4 T 1 _ _ _ HS4.out.tr
        have tf : ∀ i, w4.frozen? ⟨T, i, none⟩ = false := fun i => frozen_of_row w4 _ i _ _ HS4.out.tr
        simp at t0 t1
        have a0 := cell_of_row w4 G 0 _ _ _ (HS4.out.ac _ _ _ _ rfl)
        have a1 := cell_of_row w4 G 1 _ _ _ (HS4.out.ac _ _ _ _ rfl)
        have a2 := cell_of_row w4 G 2 _ _ _ (HS4.out.ac _ _ _ _ rfl)
        simp at a0 a1 a2
        go_upto_region 27 with (fail)
        clear t0 t1 tf a0 a1 a2
        have t0 := cell_of_row w4 T 0 _ _ _ HS4.out.tr
        have t1 := cell_of_row w4 T 1 _ _ _ HS4.out.tr
        have tf : ∀ i, w4.frozen? ⟨T, i, none⟩ = false := fun i => frozen_of_row w4 _ i _ _ HS4.out.tr
        simp at t0 t1
        have a0 := cell_of_row w4 G 0 _ _ _ (HS4.out.ac _ _ _ _ rfl)
        have a1 := cell_of_row w4 G 1 _ _ _ (HS4.out.ac _ _ _ _ rfl)
        have a2 := cell_of_row w4 G 2 _ _ _ (HS4.out.ac _ _ _ _ rfl)
        simp at a0 a1 a2
        have HNX := Lib.hid (Z.next_at R y vi vt (ps.map (·.1)) (ps.map (·.2)) x w4 HS4.out.ir (by rw [List.length_map]; have := HS4.out.lm; omega))
        go_wp2_with fail
        refine HNX.out.mono ?_
        rintro r w8 ⟨⟨m8, hn8, rfl⟩, hw8⟩
        subst hw8
        obtain ⟨b8, hb8⟩ : ∃ b8, b8 = decide (m8 ≠ 0) := ⟨_, rfl⟩
        rw [← hb8]
        have HB8 := Lib.hid hb8
        clear hb8
        have HRX := Lib.hid (D.rnext_any A n c y x l w8 HS4.out.ln (D.Rs.of_own HS4.out.ow) (by have := HS4.out.nl; omega))
        go_wp2_with fail
        refine HRX.out.mono ?_
        rintro r w9 ⟨⟨m9, hn9, rfl⟩, hb9⟩
        have hmm := D.nx_one hn8 (D.nx_perm HS4.out.pe hn9)
        subst hmm
        have HS9 := Lib.hid (HS4.out.after hb9)
        clear hb9 hn8 hn9
        clear t0 t1 tf a0 a1 a2
        have t0 := cell_of_row w9 T 0 _ _ _ HS9.out.tr
        have t1 := cell_of_row w9 T 1 _ _ _ HS9.out.tr
        have tf : ∀ i, w9.frozen? ⟨T, i, none⟩ = false := fun i => frozen_of_row w9 _ i _ _ HS9.out.tr
        simp at t0 t1
        have a0 := cell_of_row w9 G 0 _ _ _ (HS9.out.ac _ _ _ _ rfl)
        have a1 := cell_of_row w9 G 1 _ _ _ (HS9.out.ac _ _ _ _ rfl)
        have a2 := cell_of_row w9 G 2 _ _ _ (HS9.out.ac _ _ _ _ rfl)
        simp at a0 a1 a2
        rw [← HB8.out]
        have HLK := Lib.hid (like_any R w.heap.size y vi vt A n c l ps w9 HS9.out.ir (by omega) HS9.out.ln HS9.out.ow (by have := HS9.out.nl; omega) HS9.out.pe)
        go_wp2_with fail
        refine HLK.out.mono ?_
        rintro r wA ⟨rfl, hbA⟩
        have HSA := Lib.hid (HS9.out.after hbA).noact
        clear hbA
        clear t0 t1 tf a0 a1 a2
        go_wp2
        go_roundw
        case rel => exact ⟨k + 1, vi, vt, ps, A, n, c, l, by omega, by go_num, HSA⟩
        case measure => simp [intOf] <;> omega
    · have hkn : k = N := by omega
      subst hkn
      have hmx : max (0 : Int) mo = y := HY.out.symm
      obtain ⟨q, hq⟩ : ∃ q : Nat, y = (q : Int) := ⟨y.toNat, by omega⟩
      have HSq := HS
      rw [hq] at hmx
      have hcw : IntKind.u32.wrap (q : Int) = (q : Int) := by rw [IntKind.wrap_u32]; omega
      have HR1 := Lib.hid (right_any q wr)
      have HR2 := Lib.hid (D.rright_any q wr)
      obtain ⟨bq, hbq⟩ : ∃ bq, bq = decide (1 ≤ q ∧ q ≤ 2147483647) := ⟨_, rfl⟩
      rw [← hbq] at HR1 HR2
      clear hbq
      go_wp2_with fail
      refine HR1.out.mono ?_
      rintro r w3 ⟨rfl, hw3⟩
      subst hw3
      go_wp2_with fail
      refine HR2.out.mono ?_
      rintro r w4 ⟨rfl, hw4⟩
      subst hw4
      go_wp2_with fail
      refine (rawake _).mono ?_
      rintro r w5 ⟨rfl, hb5⟩
      have HBF : Hid (Below w.heap.size w w5) := HSq.out.bl.trans (hb5.mono HSq.out.bl.size)
      clear hb5
      go_wp2
      go_ret
      exact ⟨rfl, HBF.out⟩
end Go.Proofs.Ytbilkelbelimjaa
