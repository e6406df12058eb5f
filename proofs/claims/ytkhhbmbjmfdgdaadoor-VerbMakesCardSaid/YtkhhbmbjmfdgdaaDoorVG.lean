/- Verb: the document's own Decode. -/
import Derived.Test.YtkhhbmbjmfdgdaaDoorVE
import Derived.Test.YtkhhbmbjmfdgdaaDoorD2
import Derived.BigRegion
namespace Go.Proofs.YtkhhbmbjmfdgdaaDoor
open Go.RowKit
set_option maxRecDepth 20000

def RDecPost (w : World) (r : Nat × Nat × List Nat × List ByteArray × List (List Nat)) (e : Ending) (w' : World) : Prop :=
  ∃ vN vS vL vs, e = .returned (.tuple #[.agg #[.int .i64 (r.2.1 : Int), vN, vS, vL], .int .i64 (r.1 : Int)]) ∧ Below w.heap.size w w' ∧
    w'.ownsRow w.heap.size 66 1 vN r.2.2.1.length (uv .u64 r.2.2.1) ∧ w'.ownsRow w.heap.size 9 1 vS r.2.2.2.1.length (sv r.2.2.2.1) ∧ w'.ownsRow w.heap.size 62 1 vL r.2.2.2.2.length vs ∧
    Lq w' w.heap.size vs r.2.2.2.2 ∧ (∀ n ∈ r.2.2.1, n < 18446744073709551616)

theorem RDecPost.err {w w' : World} {k : Nat} (hb : Below w.heap.size w w') : RDecPost w (k, 0, [], [], []) (.returned (.tuple #[.agg #[.int .i64 0, .slice none 0 0, .slice none 0 0, .slice none 0 0], .int .i64 (k : Int)])) w' :=
  ⟨_, _, _, [], rfl, hb, World.ownsRow_nil _ _ _ _, World.ownsRow_nil _ _ _ _, World.ownsRow_nil _ _ _ _, trivial, fun n hn => by cases hn⟩

theorem rdec_flds {w w' : World} {r : Nat × Nat × List Nat × List ByteArray × List (List Nat)} {e : Ending} (h : RDecPost w r e w') :
    ∃ aN aS aL cN cS cL vs, e = .returned (.tuple #[.agg #[.int .i64 (r.2.1 : Int), .slice aN r.2.2.1.length cN, .slice aS r.2.2.2.1.length cS, .slice aL r.2.2.2.2.length cL], .int .i64 (r.1 : Int)]) ∧ Below w.heap.size w w' ∧ Flds w' aN aS aL cN cS cL vs r.2.2.1 r.2.2.2.1 r.2.2.2.2 := by
  obtain ⟨vN, vS, vL, vs, rfl, hb, oN, oS, oL, ls, bN⟩ := h
  obtain ⟨aN, aS, aL, cN, cS, cL, us, he, _, hf⟩ := rread_flds (w := w) (w' := w') (r := (r.1, r.2.2)) (e := .returned (.tuple #[.agg #[vN, vS, vL], .int .i64 (r.1 : Int)])) ⟨vN, vS, vL, vs, rfl, hb, oN, oS, oL, ls, bN⟩
  refine ⟨aN, aS, aL, cN, cS, cL, us, ?_, hb, hf⟩
  injection he with he
  injection he with he
  simp at he
  obtain ⟨rfl, rfl, rfl⟩ := he
  rfl

theorem Lq.far {w : World} {B b i : Nat} {u : Value} (hb : b < B) : ∀ {vs : List Value} {us : List (List Nat)}, Lq w B vs us → Lq (w.setCell ⟨b, i, none⟩ u) B vs us
  | [], [], _ => trivial
  | _ :: _, _ :: _, ⟨⟨h1, h3⟩, h2⟩ => ⟨⟨own_far h1 hb, h3⟩, Lq.far hb h2⟩
theorem Lq.drew {w : World} {B : Nat} : ∀ {vs : List Value} {us : List (List Nat)}, Lq w B vs us → Lq w.drew B vs us
  | [], [], _ => trivial
  | _ :: _, _ :: _, ⟨⟨h1, h3⟩, h2⟩ => ⟨⟨h1.drew, h3⟩, Lq.drew h2⟩
theorem Lq.mono {w : World} {B B' : Nat} (hB : B' ≤ B) : ∀ {vs : List Value} {us : List (List Nat)}, Lq w B vs us → Lq w B' vs us
  | [], [], _ => trivial
  | _ :: _, _ :: _, ⟨⟨h1, h3⟩, h2⟩ => ⟨⟨own_mono h1 hB, h3⟩, Lq.mono hB h2⟩

/-- What stands when the fields are read: the result's own block, the fields in block F. -/
structure R9 (w W : World) (F : Nat) (aN aS aL : Option Addr) (kN kS kL : Nat) (vs : List Value) (N : List Nat) (S : List ByteArray) (L : List (List Nat)) : Prop where
  hb : Below w.heap.size w W
  p : W.heap[w.heap.size]? = some (.cells #[.int .i64 0, .slice none 0 0, .slice none 0 0, .slice none 0 0] 40 (0, 0))
  q : W.heap[F]? = some (.cells #[.slice aN N.length kN, .slice aS S.length kS, .slice aL L.length kL] 38 (0, 0))
  oN : W.ownsRow (w.heap.size + 1) 66 1 (.slice aN N.length kN) N.length (uv .u64 N)
  oS : W.ownsRow (w.heap.size + 1) 9 1 (.slice aS S.length kS) S.length (sv S)
  oL : W.ownsRow (w.heap.size + 1) 62 1 (.slice aL L.length kL) L.length vs
  ls : Lq W (w.heap.size + 1) vs L
  bN : ∀ n ∈ N, n < 18446744073709551616

set_option maxHeartbeats 4000000 in
theorem rdecode_any (v : Value) (l : List UInt8) (w : World) (hv : Bs w w.heap.size v l) (hl : l.length ≤ 2001) :
    Calls Tryd.prog 23 #[v] w (RDecPost w (decR l)) := by
  obtain ⟨w0, hw0⟩ : ∃ w0, w0 = w.alloc (.cells #[.int .i64 0, .slice none 0 0, .slice none 0 0, .slice none 0 0] 40) := ⟨_, rfl⟩
  have hb0 : Below w.heap.size w w0 := by rw [hw0]; exact (Below.refl w.heap.size w).alloc (Nat.le_refl _) _
  have hp0 : w0.heap[w.heap.size]? = some (.cells #[.int .i64 0, .slice none 0 0, .slice none 0 0, .slice none 0 0] 40 (0, 0)) := by rw [hw0]; exact heap_alloc_new w _
  rcases l with _ | ⟨x, l⟩
  · obtain ⟨A, c, rfl, _, _⟩ := hv
    have f0 : ∀ i, w0.frozen? ⟨w.heap.size, i, none⟩ = false := fun i => frozen_of_row w0 _ i _ _ hp0
    have g0 := cell_of_row w0 w.heap.size 0 _ _ _ hp0
    have g1 := cell_of_row w0 w.heap.size 1 _ _ _ hp0
    have g2 := cell_of_row w0 w.heap.size 2 _ _ _ hp0
    have g3 := cell_of_row w0 w.heap.size 3 _ _ _ hp0
    simp at g0 g1 g2 g3
    have H0 := Lib.hid hw0
    clear hw0 hp0
    go_enter Tryd.func23, Tryd.ntmps23
    go_upto_region 1 with (fail)
    rw [← H0.out]
    go_wp2
    exact bodyPost_ret (v := .tuple #[.agg #[.int .i64 0, .slice none 0 0, .slice none 0 0, .slice none 0 0], .int .i64 3]) (by simp [results, Tryd.results23, go_sem, g0, g1, g2, g3]) rfl (RDecPost.err ((((hb0.setCell (by simp) _).setCell (by simp) _).setCell (by simp) _).setCell (by simp) _))
  · obtain ⟨A, c, rfl, hlc, hrd⟩ := hv
    obtain ⟨n, hn⟩ : ∃ n, n = l.length := ⟨_, rfl⟩
    have hlen : (x :: l).length = n + 1 := by rw [hn]; rfl
    have hbs : Bs w w.heap.size (.slice A (n + 1) c) (x :: l) := ⟨A, c, by rw [hlen], by omega, hrd⟩
    rw [hlen] at hl ⊢
    obtain ⟨A', c', hsl, hbt⟩ := bs_tail hbs hn
    obtain ⟨b, o, rfl, hbB, hcell⟩ := hrd (by simp [bv])
    have hcw : w.cell? ⟨b, o, none⟩ = some (.int .u8 (x.toNat : Int)) := by simpa [bv] using hcell 0 (.int .u8 (x.toNat : Int)) (by simp [bv])
    have hx8 := x.toNat_lt
    obtain ⟨res, hres⟩ : ∃ res, res = decR (x :: l) := ⟨_, rfl⟩
    have hres2 : res = if sideP (x.toNat : Int) = 0 then (5, 0, [], [], []) else if (readR (entP (x.toNat : Int)).2.data.toList l).1 = 0 then (0, x.toNat, (readR (entP (x.toNat : Int)).2.data.toList l).2) else ((readR (entP (x.toNat : Int)).2.data.toList l).1, 0, [], [], []) := hres
    rw [← hres]
    obtain ⟨m, hm⟩ : ∃ m, m = x.toNat := ⟨_, rfl⟩
    rw [← hm] at hcw hx8 hres2
    have hc0 := (hb0.cell (p := ⟨b, o, none⟩) hbB).trans hcw
    have hfn := find_any (m : Int) w0
    unfold FindPost at hfn
    obtain ⟨e1, e2, _⟩ := find_eq (m : Int)
    rw [e1, e2] at hfn
    obtain ⟨kk, hkk⟩ : ∃ kk, kk = (rowD (findR (m : Int))).1 := ⟨_, rfl⟩
    rw [← hkk] at hfn
    obtain ⟨nm, hnm⟩ : ∃ nm, nm = (entP (m : Int)).1 := ⟨_, rfl⟩
    obtain ⟨sh, hsh⟩ : ∃ sh, sh = (entP (m : Int)).2 := ⟨_, rfl⟩
    rw [← hnm, ← hsh] at hfn
    rw [← hsh] at hres2
    have H0 := Lib.hid hw0
    have HB0 := Lib.hid hb0
    have HP0 := Lib.hid hp0
    have HBT := Lib.hid hbt
    have HCW := Lib.hid hcw
    have HBB := Lib.hid hbB
    by_cases hs : sideP (m : Int) = 0
    · rw [if_pos hs] at hres2
      have t : (sideP (m : Int) != 0) = false := by simp [hs]
      rw [t] at hfn
      have HS := Lib.hid hfn
      have HX := Lib.hid hres2
      clear hfn hs t hrd hres2 hres hm hw0 hb0 hp0 hbt hbs hn hlen hcell e1 e2 hkk hnm hsh hcw hbB
      go_enter Tryd.func23, Tryd.ntmps23
      go_upto_region 1 with (fail)
      rw [← H0.out]
      go_wp2_with fail
      refine HS.out.mono ?_
      rintro e w1 ⟨rfl, hb1⟩
      obtain ⟨w2, hw2⟩ : ∃ w2, w2 = w1.alloc (.cells #[.int .i64 (kk : Int), .string nm, .string sh] 23) := ⟨_, rfl⟩
      have hb12 : Below w1.heap.size w1 w2 := by rw [hw2]; exact (Below.refl _ _).alloc (Nat.le_refl _) _
      have hb01 := HB0.out.trans (hb1.mono HB0.out.size)
      have hb02 := hb01.trans (hb12.mono hb01.size)
      have hp1 := ((hb1.trans (hb12.mono hb1.size)).block w.heap.size (lt_of_block HP0.out)).trans HP0.out
      have f0 : ∀ i, w2.frozen? ⟨w.heap.size, i, none⟩ = false := fun i => frozen_of_row w2 _ i _ _ hp1
      have g0 := cell_of_row w2 w.heap.size 0 _ _ _ hp1
      have g1 := cell_of_row w2 w.heap.size 1 _ _ _ hp1
      have g2 := cell_of_row w2 w.heap.size 2 _ _ _ hp1
      have g3 := cell_of_row w2 w.heap.size 3 _ _ _ hp1
      simp at g0 g1 g2 g3
      have H2 := Lib.hid hw2
      clear hp1 hc0 hb12 hw2 hb1
      go_upto_region 4 with (fail)
      rw [← H2.out]
      go_wp2
      exact bodyPost_ret (v := .tuple #[.agg #[.int .i64 0, .slice none 0 0, .slice none 0 0, .slice none 0 0], .int .i64 5]) (by simp [results, Tryd.results23, go_sem, g0, g1, g2, g3]) rfl (by rw [HX.out]; exact RDecPost.err ((((hb02.setCell (by simp) _).setCell (by simp) _).setCell (by simp) _).setCell (by simp) _))
    · rw [if_neg hs] at hres2
      have t : (sideP (m : Int) != 0) = true := by simp [hs]
      rw [t] at hfn
      obtain ⟨r, hr⟩ : ∃ r, r = readR sh.data.toList l := ⟨_, rfl⟩
      rw [← hr] at hres2
      have HS := Lib.hid hfn
      have HX := Lib.hid hres2
      have HR := Lib.hid hr
      have HLN : Hid (l.length ≤ 2000) := by simp only [Hid]; omega
      clear hfn hs t hrd hres2 hres hm hw0 hb0 hp0 hbt hbs hn hlen hcell e1 e2 hkk hnm hsh hcw hbB hr
      go_enter Tryd.func23, Tryd.ntmps23
      go_upto_region 1 with (fail)
      rw [← H0.out]
      go_wp2_with fail
      refine HS.out.mono ?_
      rintro e w1 ⟨rfl, hb1⟩
      obtain ⟨w2, hw2⟩ : ∃ w2, w2 = w1.alloc (.cells #[.int .i64 (kk : Int), .string nm, .string sh] 23) := ⟨_, rfl⟩
      have hb12 : Below w1.heap.size w1 w2 := by rw [hw2]; exact (Below.refl _ _).alloc (Nat.le_refl _) _
      have hb01 := HB0.out.trans (hb1.mono HB0.out.size)
      have hb02 := hb01.trans (hb12.mono hb01.size)
      have HP2 := Lib.hid (((hb1.trans (hb12.mono hb1.size)).block w.heap.size (lt_of_block HP0.out)).trans HP0.out)
      have hq2 : w2.heap[w1.heap.size]? = some (.cells #[.int .i64 (kk : Int), .string nm, .string sh] 23 (0, 0)) := by rw [hw2]; exact heap_alloc_new w1 _
      have d2 : w2.drew.cell? ⟨w1.heap.size, 2, none⟩ = some (.string sh) := cell_of_row w2 w1.heap.size 2 _ _ _ hq2
      have d2' : (w2.alloc (.cells #[.slice none 0 0, .slice none 0 0, .slice none 0 0] 38)).cell? ⟨w1.heap.size, 2, none⟩ = some (.string sh) := (World.cell?_alloc_lt w2 _ ⟨w1.heap.size, 2, none⟩ (lt_of_block hq2)).trans d2
      have HRD : Hid (∀ W, Below w2.heap.size w2 W → Calls Tryd.prog 35 #[.string sh, .slice A' n c'] W (RPost W r)) := fun W hW => by
        have hbW := hb02.trans (hW.mono hb02.size)
        have := rread_any sh (.slice A' n c') l W (bs_up (HBT.out.below hbW (Nat.le_refl _)) hbW.size) HLN.out
        rwa [← HR.out] at this
      have HD1 : Hid (Below w2.heap.size w2 w2.drew) := (Below.refl _ _).drew
      have HD2 : Hid (Below w2.heap.size w2 (w2.alloc (.cells #[.slice none 0 0, .slice none 0 0, .slice none 0 0] 38)).drew) := ((Below.refl _ _).alloc (Nat.le_refl _) _).drew
      have HF2 : Hid ((w2.alloc (.cells #[.slice none 0 0, .slice none 0 0, .slice none 0 0] 38)).drew.heap[w2.heap.size]? = some (.cells #[.slice none 0 0, .slice none 0 0, .slice none 0 0] 38 (0, 0))) := heap_alloc_new w2 _
      have HZ2 : Hid ((w2.alloc (.cells #[.slice none 0 0, .slice none 0 0, .slice none 0 0] 38)).drew.heap.size = w2.heap.size + 1) := size_alloc' w2 _
      have hz2 : w.heap.size < w2.heap.size := lt_of_block HP2.out
      have H2 := Lib.hid hw2
      clear hc0 hb1 hw2 hb12 hq2 hb01
      go_upto_region 4 with (fail)
      rw [← H2.out]
      go_wp2_with fail
      go_region_law (first
        | (go_simp; go_at_call 35; refine (HRD.out w2.drew HD1.out).mono ?_; rintro e w3 ⟨vN, vS, vL, vs, rfl, hb3, oN, oS, oL, ls, bN⟩; obtain ⟨aN, kN, rfl, _⟩ := own_rd oN; obtain ⟨aS, kS, rfl, _⟩ := own_rd oS; obtain ⟨aL, kL, rfl, _⟩ := own_rd oL)
        | (go_simp; go_at_call 35; refine (HRD.out _ HD2.out).mono ?_; rintro e w3 ⟨vN, vS, vL, vs, rfl, hb3, oN, oS, oL, ls, bN⟩; obtain ⟨aN, kN, rfl, _⟩ := own_rd oN; obtain ⟨aS, kS, rfl, _⟩ := own_rd oS; obtain ⟨aL, kL, rfl, _⟩ := own_rd oL; have pF := (hb3.block w2.heap.size (by rw [HZ2.out]; omega)).trans HF2.out; have fF : ∀ i, w3.frozen? ⟨w2.heap.size, i, none⟩ = false := (fun i => frozen_of_row w3 _ i _ _ pF); have c0 := cell_of_row w3 w2.heap.size 0 _ _ _ pF; have c1 := cell_of_row w3 w2.heap.size 1 _ _ _ pF; have c2 := cell_of_row w3 w2.heap.size 2 _ _ _ pF; simp at c0 c1 c2)
        | fail)
      · have hbD : Below w.heap.size w w2.drew := hb02.drew
        have hb03 := hbD.trans (hb3.mono hbD.size)
        have p3 := (hb3.block w.heap.size hz2).trans HP2.out
        have hba : Below w3.heap.size w3 (w3.alloc (.cells #[.slice aN r.2.1.length kN, .slice aS r.2.2.1.length kS, .slice aL r.2.2.2.length kL] 38)) := (Below.refl _ _).alloc (Nat.le_refl _) _
        have h9 : R9 w (w3.alloc (.cells #[.slice aN r.2.1.length kN, .slice aS r.2.2.1.length kS, .slice aL r.2.2.2.length kL] 38)) w3.heap.size aN aS aL kN kS kL vs r.2.1 r.2.2.1 r.2.2.2 :=
          ⟨hb03.alloc hb03.size _, (hba.block _ (lt_of_block p3)).trans p3, heap_alloc_new w3 _, own_mono (oN.alloc _) hz2, own_mono (oS.alloc _) hz2, own_mono (oL.alloc _) hz2, Lq.mono hz2 (ls.below hba), bN⟩
        obtain ⟨w5, hw5⟩ : ∃ w5, w5 = w3.alloc (.cells #[.slice aN r.2.1.length kN, .slice aS r.2.2.1.length kS, .slice aL r.2.2.2.length kL] 38) := ⟨_, rfl⟩
        have hFR : w3.heap.size ≠ w.heap.size := by have := lt_of_block p3; omega
        clear hb3 oN oS oL ls bN hbD hb03 p3 hba
        rw [← hw5] at h9
        have H9 := Lib.hid h9
        have H5 := Lib.hid hw5
        have f5 : ∀ i, w5.frozen? ⟨w.heap.size, i, none⟩ = false := fun i => frozen_of_row w5 _ i _ _ h9.p
        have g0 := cell_of_row w5 w.heap.size 0 _ _ _ h9.p
        have g1 := cell_of_row w5 w.heap.size 1 _ _ _ h9.p
        have g2 := cell_of_row w5 w.heap.size 2 _ _ _ h9.p
        have g3 := cell_of_row w5 w.heap.size 3 _ _ _ h9.p
        have q0 := cell_of_row w5 w3.heap.size 0 _ _ _ h9.q
        have q1 := cell_of_row w5 w3.heap.size 1 _ _ _ h9.q
        have q2 := cell_of_row w5 w3.heap.size 2 _ _ _ h9.q
        have qb := (h9.hb.cell (p := ⟨b, o, none⟩) HBB.out).trans HCW.out
        have hbl := HBB.out
        have hbR : b ≠ w.heap.size := Nat.ne_of_lt hbl
        simp at g0 g1 g2 g3 q0 q1 q2
        clear h9 hw5 d2 d2' hb02 hbl
        go_upto_region 7 with (fail)
        rw [← H5.out]
        by_cases hr0 : r.1 = 0
        · have HX2 := Lib.hid (HX.out.trans (if_pos hr0))
          have t0 : (((r.1 : Nat) : Int) != 0) = false := by simp [hr0]
          clear hr0 HX
          go_wp2_with fail
          go_region
          all_goals
            go_wp2
            have far := fun {e n : Nat} {v : Value} {xs : List Value} (h : w5.ownsRow (w.heap.size + 1) e 1 v n xs) (u0 u1 u2 u3 : Value) => own_mono (own_far (own_far (own_far (own_far h (b := w.heap.size) (i := 0) (u := u0) (Nat.lt_succ_self _)) (b := w.heap.size) (i := 1) (u := u1) (Nat.lt_succ_self _)) (b := w.heap.size) (i := 2) (u := u2) (Nat.lt_succ_self _)) (b := w.heap.size) (i := 3) (u := u3) (Nat.lt_succ_self _)) (Nat.le_succ _)
            exact bodyPost_ret (v := .tuple #[.agg #[.int .i64 (m : Int), .slice aN r.2.1.length kN, .slice aS r.2.2.1.length kS, .slice aL r.2.2.2.length kL], .int .i64 0]) (by simp [results, Tryd.results23, go_sem, g0, g1, g2, g3]) rfl (by
              rw [HX2.out]
              exact ⟨_, _, _, vs, rfl, (((((H9.out.hb.setCell (by simp) _).setCell (by simp) _).setCell (by simp) _).setCell (by simp) _)).drew, far H9.out.oN _ _ _ _, far H9.out.oS _ _ _ _, far H9.out.oL _ _ _ _, (Lq.mono (Nat.le_succ _) (Lq.far (Nat.lt_succ_self _) (Lq.far (Nat.lt_succ_self _) (Lq.far (Nat.lt_succ_self _) (Lq.far (Nat.lt_succ_self _) H9.out.ls))))).drew, H9.out.bN⟩)
        · have HX2 := Lib.hid (HX.out.trans (if_neg hr0))
          have t0 : (((r.1 : Nat) : Int) != 0) = true := by simp; omega
          obtain ⟨er, her⟩ : ∃ er, er = r.1 := ⟨_, rfl⟩
          rw [← her] at HX2
          rw [← her] at t0
          rw [← her]
          clear hr0 HX her
          go_wp2
          exact bodyPost_ret (v := .tuple #[.agg #[.int .i64 0, .slice none 0 0, .slice none 0 0, .slice none 0 0], .int .i64 (er : Int)]) (by simp [results, Tryd.results23, go_sem, g0, g1, g2, g3]) rfl (by rw [HX2.out]; exact RDecPost.err ((((H9.out.hb.setCell (by simp) _).setCell (by simp) _).setCell (by simp) _).setCell (by simp) _))
      · have hbD : Below w.heap.size w (w2.alloc (.cells #[.slice none 0 0, .slice none 0 0, .slice none 0 0] 38)).drew := hb02.trans (HD2.out.mono hb02.size)
        have hb03 := hbD.trans (hb3.mono hbD.size)
        have p2 := (HD2.out.block w.heap.size hz2).trans HP2.out
        have p3 := (hb3.block w.heap.size (lt_of_block p2)).trans p2
        have hlt : w2.heap.size < (w2.alloc (.cells #[.slice none 0 0, .slice none 0 0, .slice none 0 0] 38)).drew.heap.size := by rw [HZ2.out]; omega
        have hFR : w2.heap.size ≠ w.heap.size := by omega
        have r1 := heap_setCell_same w3 w2.heap.size 0 _ 38 (.slice aN r.2.1.length kN) pF
        have r2 := heap_setCell_same _ w2.heap.size 1 _ 38 (.slice aS r.2.2.1.length kS) r1
        have r3 := heap_setCell_same _ w2.heap.size 2 _ 38 (.slice aL r.2.2.2.length kL) r2
        have pp : ∀ (W : World) (i : Nat) (u : Value), W.heap[w.heap.size]? = some (.cells #[.int .i64 0, .slice none 0 0, .slice none 0 0, .slice none 0 0] 40 (0, 0)) → (W.setCell ⟨w2.heap.size, i, none⟩ u).heap[w.heap.size]? = some (.cells #[.int .i64 0, .slice none 0 0, .slice none 0 0, .slice none 0 0] 40 (0, 0)) := fun W i u h => ((grown_setCell W w2.heap.size i u).block _ (lt_of_block h) (fun e => by injection e with e; omega)).trans h
        have hmn : w.heap.size + 1 ≤ (w2.alloc (.cells #[.slice none 0 0, .slice none 0 0, .slice none 0 0] 38)).drew.heap.size := by omega
        have h9 : R9 w (((w3.setCell ⟨w2.heap.size, 0, none⟩ (.slice aN r.2.1.length kN)).setCell ⟨w2.heap.size, 1, none⟩ (.slice aS r.2.2.1.length kS)).setCell ⟨w2.heap.size, 2, none⟩ (.slice aL r.2.2.2.length kL)) w2.heap.size aN aS aL kN kS kL vs r.2.1 r.2.2.1 r.2.2.2 :=
          ⟨((hb03.setCell (by simp; omega) _).setCell (by simp; omega) _).setCell (by simp; omega) _, pp _ _ _ (pp _ _ _ (pp _ _ _ p3)), r3, own_mono (own_far (own_far (own_far oN hlt) hlt) hlt) hmn, own_mono (own_far (own_far (own_far oS hlt) hlt) hlt) hmn, own_mono (own_far (own_far (own_far oL hlt) hlt) hlt) hmn, Lq.mono hmn (Lq.far hlt (Lq.far hlt (Lq.far hlt ls))), bN⟩
        obtain ⟨w5, hw5⟩ : ∃ w5, w5 = (((w3.setCell ⟨w2.heap.size, 0, none⟩ (.slice aN r.2.1.length kN)).setCell ⟨w2.heap.size, 1, none⟩ (.slice aS r.2.2.1.length kS)).setCell ⟨w2.heap.size, 2, none⟩ (.slice aL r.2.2.2.length kL)) := ⟨_, rfl⟩
        clear hb3 oN oS oL ls bN hbD hb03 p3 p2 hlt r1 r2 r3 pp hmn pF fF c0 c1 c2
        rw [← hw5] at h9
        have H9 := Lib.hid h9
        have H5 := Lib.hid hw5
        have f5 : ∀ i, w5.frozen? ⟨w.heap.size, i, none⟩ = false := fun i => frozen_of_row w5 _ i _ _ h9.p
        have g0 := cell_of_row w5 w.heap.size 0 _ _ _ h9.p
        have g1 := cell_of_row w5 w.heap.size 1 _ _ _ h9.p
        have g2 := cell_of_row w5 w.heap.size 2 _ _ _ h9.p
        have g3 := cell_of_row w5 w.heap.size 3 _ _ _ h9.p
        have q0 := cell_of_row w5 w2.heap.size 0 _ _ _ h9.q
        have q1 := cell_of_row w5 w2.heap.size 1 _ _ _ h9.q
        have q2 := cell_of_row w5 w2.heap.size 2 _ _ _ h9.q
        have qb := (h9.hb.cell (p := ⟨b, o, none⟩) HBB.out).trans HCW.out
        have hbl := HBB.out
        have hbR : b ≠ w.heap.size := Nat.ne_of_lt hbl
        simp at g0 g1 g2 g3 q0 q1 q2
        clear h9 hw5 d2 d2' hb02 hbl
        go_upto_region 7 with (fail)
        rw [← H5.out]
        by_cases hr0 : r.1 = 0
        · have HX2 := Lib.hid (HX.out.trans (if_pos hr0))
          have t0 : (((r.1 : Nat) : Int) != 0) = false := by simp [hr0]
          clear hr0 HX
          go_wp2_with fail
          go_region
          all_goals
            go_wp2
            have far := fun {e n : Nat} {v : Value} {xs : List Value} (h : w5.ownsRow (w.heap.size + 1) e 1 v n xs) (u0 u1 u2 u3 : Value) => own_mono (own_far (own_far (own_far (own_far h (b := w.heap.size) (i := 0) (u := u0) (Nat.lt_succ_self _)) (b := w.heap.size) (i := 1) (u := u1) (Nat.lt_succ_self _)) (b := w.heap.size) (i := 2) (u := u2) (Nat.lt_succ_self _)) (b := w.heap.size) (i := 3) (u := u3) (Nat.lt_succ_self _)) (Nat.le_succ _)
            exact bodyPost_ret (v := .tuple #[.agg #[.int .i64 (m : Int), .slice aN r.2.1.length kN, .slice aS r.2.2.1.length kS, .slice aL r.2.2.2.length kL], .int .i64 0]) (by simp [results, Tryd.results23, go_sem, g0, g1, g2, g3]) rfl (by
              rw [HX2.out]
              exact ⟨_, _, _, vs, rfl, (((((H9.out.hb.setCell (by simp) _).setCell (by simp) _).setCell (by simp) _).setCell (by simp) _)).drew, far H9.out.oN _ _ _ _, far H9.out.oS _ _ _ _, far H9.out.oL _ _ _ _, (Lq.mono (Nat.le_succ _) (Lq.far (Nat.lt_succ_self _) (Lq.far (Nat.lt_succ_self _) (Lq.far (Nat.lt_succ_self _) (Lq.far (Nat.lt_succ_self _) H9.out.ls))))).drew, H9.out.bN⟩)
        · have HX2 := Lib.hid (HX.out.trans (if_neg hr0))
          have t0 : (((r.1 : Nat) : Int) != 0) = true := by simp; omega
          obtain ⟨er, her⟩ : ∃ er, er = r.1 := ⟨_, rfl⟩
          rw [← her] at HX2
          rw [← her] at t0
          rw [← her]
          clear hr0 HX her
          go_wp2
          exact bodyPost_ret (v := .tuple #[.agg #[.int .i64 0, .slice none 0 0, .slice none 0 0, .slice none 0 0], .int .i64 (er : Int)]) (by simp [results, Tryd.results23, go_sem, g0, g1, g2, g3]) rfl (by rw [HX2.out]; exact RDecPost.err ((((H9.out.hb.setCell (by simp) _).setCell (by simp) _).setCell (by simp) _).setCell (by simp) _))
      · have hbD : Below w.heap.size w (w2.alloc (.cells #[.slice none 0 0, .slice none 0 0, .slice none 0 0] 38)).drew := hb02.trans (HD2.out.mono hb02.size)
        have hb03 := hbD.trans (hb3.mono hbD.size)
        have p2 := (HD2.out.block w.heap.size hz2).trans HP2.out
        have p3 := (hb3.block w.heap.size (lt_of_block p2)).trans p2
        have hlt : w2.heap.size < (w2.alloc (.cells #[.slice none 0 0, .slice none 0 0, .slice none 0 0] 38)).drew.heap.size := by rw [HZ2.out]; omega
        have hFR : w2.heap.size ≠ w.heap.size := by omega
        have r1 := heap_setCell_same w3 w2.heap.size 0 _ 38 (.slice aN r.2.1.length kN) pF
        have r2 := heap_setCell_same _ w2.heap.size 1 _ 38 (.slice aS r.2.2.1.length kS) r1
        have r3 := heap_setCell_same _ w2.heap.size 2 _ 38 (.slice aL r.2.2.2.length kL) r2
        have pp : ∀ (W : World) (i : Nat) (u : Value), W.heap[w.heap.size]? = some (.cells #[.int .i64 0, .slice none 0 0, .slice none 0 0, .slice none 0 0] 40 (0, 0)) → (W.setCell ⟨w2.heap.size, i, none⟩ u).heap[w.heap.size]? = some (.cells #[.int .i64 0, .slice none 0 0, .slice none 0 0, .slice none 0 0] 40 (0, 0)) := fun W i u h => ((grown_setCell W w2.heap.size i u).block _ (lt_of_block h) (fun e => by injection e with e; omega)).trans h
        have hmn : w.heap.size + 1 ≤ (w2.alloc (.cells #[.slice none 0 0, .slice none 0 0, .slice none 0 0] 38)).drew.heap.size := by omega
        have h9 : R9 w (((w3.setCell ⟨w2.heap.size, 0, none⟩ (.slice aN r.2.1.length kN)).setCell ⟨w2.heap.size, 1, none⟩ (.slice aS r.2.2.1.length kS)).setCell ⟨w2.heap.size, 2, none⟩ (.slice aL r.2.2.2.length kL)) w2.heap.size aN aS aL kN kS kL vs r.2.1 r.2.2.1 r.2.2.2 :=
          ⟨((hb03.setCell (by simp; omega) _).setCell (by simp; omega) _).setCell (by simp; omega) _, pp _ _ _ (pp _ _ _ (pp _ _ _ p3)), r3, own_mono (own_far (own_far (own_far oN hlt) hlt) hlt) hmn, own_mono (own_far (own_far (own_far oS hlt) hlt) hlt) hmn, own_mono (own_far (own_far (own_far oL hlt) hlt) hlt) hmn, Lq.mono hmn (Lq.far hlt (Lq.far hlt (Lq.far hlt ls))), bN⟩
        obtain ⟨w5, hw5⟩ : ∃ w5, w5 = (((w3.setCell ⟨w2.heap.size, 0, none⟩ (.slice aN r.2.1.length kN)).setCell ⟨w2.heap.size, 1, none⟩ (.slice aS r.2.2.1.length kS)).setCell ⟨w2.heap.size, 2, none⟩ (.slice aL r.2.2.2.length kL)) := ⟨_, rfl⟩
        clear hb3 oN oS oL ls bN hbD hb03 p3 p2 hlt r1 r2 r3 pp hmn pF fF c0 c1 c2
        rw [← hw5] at h9
        have H9 := Lib.hid h9
        have H5 := Lib.hid hw5
        have f5 : ∀ i, w5.frozen? ⟨w.heap.size, i, none⟩ = false := fun i => frozen_of_row w5 _ i _ _ h9.p
        have g0 := cell_of_row w5 w.heap.size 0 _ _ _ h9.p
        have g1 := cell_of_row w5 w.heap.size 1 _ _ _ h9.p
        have g2 := cell_of_row w5 w.heap.size 2 _ _ _ h9.p
        have g3 := cell_of_row w5 w.heap.size 3 _ _ _ h9.p
        have q0 := cell_of_row w5 w2.heap.size 0 _ _ _ h9.q
        have q1 := cell_of_row w5 w2.heap.size 1 _ _ _ h9.q
        have q2 := cell_of_row w5 w2.heap.size 2 _ _ _ h9.q
        have qb := (h9.hb.cell (p := ⟨b, o, none⟩) HBB.out).trans HCW.out
        have hbl := HBB.out
        have hbR : b ≠ w.heap.size := Nat.ne_of_lt hbl
        simp at g0 g1 g2 g3 q0 q1 q2
        clear h9 hw5 d2 d2' hb02 hbl
        go_upto_region 7 with (fail)
        rw [← H5.out]
        by_cases hr0 : r.1 = 0
        · have HX2 := Lib.hid (HX.out.trans (if_pos hr0))
          have t0 : (((r.1 : Nat) : Int) != 0) = false := by simp [hr0]
          clear hr0 HX
          go_wp2_with fail
          go_region
          all_goals
            go_wp2
            have far := fun {e n : Nat} {v : Value} {xs : List Value} (h : w5.ownsRow (w.heap.size + 1) e 1 v n xs) (u0 u1 u2 u3 : Value) => own_mono (own_far (own_far (own_far (own_far h (b := w.heap.size) (i := 0) (u := u0) (Nat.lt_succ_self _)) (b := w.heap.size) (i := 1) (u := u1) (Nat.lt_succ_self _)) (b := w.heap.size) (i := 2) (u := u2) (Nat.lt_succ_self _)) (b := w.heap.size) (i := 3) (u := u3) (Nat.lt_succ_self _)) (Nat.le_succ _)
            exact bodyPost_ret (v := .tuple #[.agg #[.int .i64 (m : Int), .slice aN r.2.1.length kN, .slice aS r.2.2.1.length kS, .slice aL r.2.2.2.length kL], .int .i64 0]) (by simp [results, Tryd.results23, go_sem, g0, g1, g2, g3]) rfl (by
              rw [HX2.out]
              exact ⟨_, _, _, vs, rfl, (((((H9.out.hb.setCell (by simp) _).setCell (by simp) _).setCell (by simp) _).setCell (by simp) _)).drew, far H9.out.oN _ _ _ _, far H9.out.oS _ _ _ _, far H9.out.oL _ _ _ _, (Lq.mono (Nat.le_succ _) (Lq.far (Nat.lt_succ_self _) (Lq.far (Nat.lt_succ_self _) (Lq.far (Nat.lt_succ_self _) (Lq.far (Nat.lt_succ_self _) H9.out.ls))))).drew, H9.out.bN⟩)
        · have HX2 := Lib.hid (HX.out.trans (if_neg hr0))
          have t0 : (((r.1 : Nat) : Int) != 0) = true := by simp; omega
          obtain ⟨er, her⟩ : ∃ er, er = r.1 := ⟨_, rfl⟩
          rw [← her] at HX2
          rw [← her] at t0
          rw [← her]
          clear hr0 HX her
          go_wp2
          exact bodyPost_ret (v := .tuple #[.agg #[.int .i64 0, .slice none 0 0, .slice none 0 0, .slice none 0 0], .int .i64 (er : Int)]) (by simp [results, Tryd.results23, go_sem, g0, g1, g2, g3]) rfl (by rw [HX2.out]; exact RDecPost.err ((((H9.out.hb.setCell (by simp) _).setCell (by simp) _).setCell (by simp) _).setCell (by simp) _))
end Go.Proofs.YtkhhbmbjmfdgdaaDoor
