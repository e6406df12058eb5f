/- Verb: Decode. -/
import Derived.Test.YtkhhbmbjmfdgdaaDoorV5
namespace Go.Proofs.YtkhhbmbjmfdgdaaDoor
open Go.RowKit
set_option maxRecDepth 20000

/-- What Decode hands back: an error's number, a kind, the fields. -/
def decR : List UInt8 → Nat × Nat × List Nat × List ByteArray × List (List Nat)
  | [] => (3, 0, [], [], [])
  | c :: l =>
    if sideP (c.toNat : Int) = 0 then (5, 0, [], [], [])
    else if (readR (entP (c.toNat : Int)).2.data.toList l).1 = 0 then (0, c.toNat, (readR (entP (c.toNat : Int)).2.data.toList l).2)
    else ((readR (entP (c.toNat : Int)).2.data.toList l).1, 0, [], [], [])

def DecPost (w : World) (r : Nat × Nat × List Nat × List ByteArray × List (List Nat)) (e : Ending) (w' : World) : Prop :=
  ∃ vN vS vL vs, e = .returned (.tuple #[.agg #[.int .i64 (r.2.1 : Int), vN, vS, vL], .int .i64 (r.1 : Int)]) ∧ Below w.heap.size w w' ∧
    w'.ownsRow w.heap.size 66 1 vN r.2.2.1.length (uv .u64 r.2.2.1) ∧ w'.ownsRow w.heap.size 9 1 vS r.2.2.2.1.length (sv r.2.2.2.1) ∧ w'.ownsRow w.heap.size 62 1 vL r.2.2.2.2.length vs ∧
    Lown w' w.heap.size vs r.2.2.2.2 ∧ (∀ n ∈ r.2.2.1, n < 18446744073709551616)

theorem DecPost.err {w w' : World} {k : Nat} (hb : Below w.heap.size w w') : DecPost w (k, 0, [], [], []) (.returned (.tuple #[.agg #[.int .i64 0, .slice none 0 0, .slice none 0 0, .slice none 0 0], .int .i64 (k : Int)])) w' :=
  ⟨_, _, _, [], rfl, hb, World.ownsRow_nil _ _ _ _, World.ownsRow_nil _ _ _ _, World.ownsRow_nil _ _ _ _, trivial, fun n hn => by cases hn⟩

theorem dec_flds {w w' : World} {r : Nat × Nat × List Nat × List ByteArray × List (List Nat)} {e : Ending} (h : DecPost w r e w') :
    ∃ aN aS aL cN cS cL vs, e = .returned (.tuple #[.agg #[.int .i64 (r.2.1 : Int), .slice aN r.2.2.1.length cN, .slice aS r.2.2.2.1.length cS, .slice aL r.2.2.2.2.length cL], .int .i64 (r.1 : Int)]) ∧ Below w.heap.size w w' ∧ Flds w' aN aS aL cN cS cL vs r.2.2.1 r.2.2.2.1 r.2.2.2.2 := by
  obtain ⟨vN, vS, vL, vs, rfl, hb, oN, oS, oL, ls, bN⟩ := h
  obtain ⟨aN, aS, aL, cN, cS, cL, us, he, _, hf⟩ := read_flds (w := w) (w' := w') (r := (r.1, r.2.2)) (e := .returned (.tuple #[.agg #[vN, vS, vL], .int .i64 (r.1 : Int)])) ⟨vN, vS, vL, vs, rfl, hb, oN, oS, oL, ls, bN⟩
  refine ⟨aN, aS, aL, cN, cS, cL, us, ?_, hb, hf⟩
  injection he with he
  injection he with he
  simp at he
  obtain ⟨rfl, rfl, rfl⟩ := he
  rfl

theorem row_far {w : World} {g b i : Nat} {us : List Nat} {u : Value} (h : Row32 w g us) (hb : b ≠ g) : Row32 (w.setCell ⟨b, i, none⟩ u) g us := by
  obtain ⟨c, hh, r⟩ := h
  exact ⟨c, ((grown_setCell w b i u).block g (lt_of_block hh) (fun e => by injection e with e; exact hb e.symm)).trans hh, r⟩
theorem Lown.far {w : World} {B b i : Nat} {u : Value} (hb : b < B) : ∀ {vs : List Value} {us : List (List Nat)}, Lown w B vs us → Lown (w.setCell ⟨b, i, none⟩ u) B vs us
  | [], [], _ => trivial
  | _ :: _, _ :: _, ⟨⟨g, hv, hg, hr, hn⟩, h⟩ => ⟨⟨g, hv, hg, row_far hr (by omega), hn⟩, Lown.far hb h⟩
theorem Lown.kept {w w' : World} {B : Nat} (hb : Below w.heap.size w w') : ∀ {vs : List Value} {us : List (List Nat)}, Lown w B vs us → Lown w' B vs us
  | [], [], _ => trivial
  | _ :: _, _ :: _, ⟨⟨g, hv, hg, ⟨c, hh, hr⟩, hn⟩, h⟩ => ⟨⟨g, hv, hg, ⟨c, (hb.block g (lt_of_block hh)).trans hh, hr⟩, hn⟩, Lown.kept hb h⟩
theorem own_after {w w' : World} {base size n : Nat} {e : TypeId} {v : Value} {xs : List Value} (h : w.ownsRow base e size v n xs) (hb : Below w.heap.size w w') : w'.ownsRow base e size v n xs := by
  refine ⟨h.1, ?_⟩
  rcases h.2 with hn | ⟨g, cap, cur, hv, hb0, hg, r⟩
  · exact .inl hn
  · exact .inr ⟨g, cap, cur, hv, hb0, (hb.block g (lt_of_block hg)).trans hg, r⟩

theorem bs_tail {w : World} {B c n : Nat} {A : Option Addr} {x : UInt8} {l : List UInt8} (h : Bs w B (.slice A (n + 1) c) (x :: l)) (hn : n = l.length) :
    ∃ A' c', (∀ W, (Instr.slice 42 (.slice A (n + 1) c) (some (.int .i64 1)) none none).run Tryd.prog W = .ok (.slice A' n c') W) ∧ Bs w B (.slice A' n c') l := by
  subst hn
  obtain ⟨A0, c0, e, hc, hr⟩ := h
  injection e with e1 e2 e3
  subst e1 e3
  simp at hc
  obtain ⟨b, o, rfl, hb, hcell⟩ := hr (by simp [bv])
  obtain ⟨i0, hi0, _, hz1, _⟩ := info_parts Tryd.info5
  by_cases hc1 : c = 1
  · subst hc1
    have hl : l = [] := List.eq_nil_of_length_eq_zero (by omega)
    subst hl
    refine ⟨some ⟨b, o, none⟩, 0, fun W => ?_, some ⟨b, o, none⟩, 0, rfl, by simp, Rd.nil⟩
    simp [Instr.slice, Sem.run_bind, run_underlying Tryd.underlying42, Instr.sliceBounds, run_sliceBound, sizeOf, typeInfo, hi0]
  · refine ⟨some ⟨b, o + 1, none⟩, c - 1, fun W => ?_, some ⟨b, o + 1, none⟩, c - 1, rfl, by omega, fun hx => ⟨b, o + 1, rfl, hb, fun j u hj => ?_⟩⟩
    · have h1 : (1 : Int) ≤ (l.length : Int) + 1 := by omega
      simp [Instr.slice, Sem.run_bind, run_underlying Tryd.underlying42, Instr.sliceBounds, run_sliceBound, sizeOf, typeInfo, hi0, hz1, h1, hc1, add_plain]
    · have := hcell (j + 1) u (by simpa [bv] using hj)
      rw [show o + 1 + j = o + (j + 1) by omega]
      exact this

theorem bs_up {w : World} {B B' : Nat} {v : Value} {l : List UInt8} (h : Bs w B v l) (hB : B ≤ B') : Bs w B' v l := by
  obtain ⟨A, c, hv, hl, hr⟩ := h
  refine ⟨A, c, hv, hl, fun hx => ?_⟩
  obtain ⟨b, o, hA, hb, hc⟩ := hr hx
  exact ⟨b, o, hA, by omega, hc⟩

set_option maxHeartbeats 4000000 in
theorem decode_any (v : Value) (l : List UInt8) (w : World) (he : Ents w) (hv : Bs w w.heap.size v l) (hl : l.length ≤ 1000000) :
    Calls Tryd.prog 22 #[v] w (DecPost w (decR l)) := by
  obtain ⟨w0, hw0⟩ : ∃ w0, w0 = w.alloc (.cells #[.int .i64 0, .slice none 0 0, .slice none 0 0, .slice none 0 0] 48) := ⟨_, rfl⟩
  have hb0 : Below w.heap.size w w0 := by rw [hw0]; exact (Below.refl w.heap.size w).alloc (Nat.le_refl _) _
  have hp0 : w0.heap[w.heap.size]? = some (.cells #[.int .i64 0, .slice none 0 0, .slice none 0 0, .slice none 0 0] 48 (0, 0)) := by rw [hw0]; exact heap_alloc_new w _
  rcases l with _ | ⟨x, l⟩
  · obtain ⟨A, c, rfl, _, _⟩ := hv
    have f0 : ∀ i, w0.frozen? ⟨w.heap.size, i, none⟩ = false := fun i => frozen_of_row w0 _ i _ _ hp0
    have g0 := cell_of_row w0 w.heap.size 0 _ _ _ hp0
    have g1 := cell_of_row w0 w.heap.size 1 _ _ _ hp0
    have g2 := cell_of_row w0 w.heap.size 2 _ _ _ hp0
    have g3 := cell_of_row w0 w.heap.size 3 _ _ _ hp0
    simp at g0 g1 g2 g3
    have H0 := Lib.hid hw0
    clear hw0 hp0 he
    go_enter Tryd.func22, Tryd.ntmps22
    go_upto_region 1 with (fail)
    rw [← H0.out]
    go_wp2
    exact bodyPost_ret (v := .tuple #[.agg #[.int .i64 0, .slice none 0 0, .slice none 0 0, .slice none 0 0], .int .i64 3]) (by simp [results, Tryd.results22, go_sem, g0, g1, g2, g3]) rfl (DecPost.err ((((hb0.setCell (by simp) _).setCell (by simp) _).setCell (by simp) _).setCell (by simp) _))
  · obtain ⟨A, c, rfl, hlc, hrd⟩ := hv
    obtain ⟨n, hn⟩ : ∃ n, n = l.length := ⟨_, rfl⟩
    have hlen : (x :: l).length = n + 1 := by rw [hn]; rfl
    have hbs : Bs w w.heap.size (.slice A (n + 1) c) (x :: l) := ⟨A, c, by rw [hlen], by omega, hrd⟩
    rw [hlen] at hl ⊢
    obtain ⟨A', c', hsl, hbt⟩ := bs_tail hbs hn
    obtain ⟨b, o, rfl, hbB, hcell⟩ := hrd (by simp [bv])
    have hc0 : w0.cell? ⟨b, o, none⟩ = some (.int .u8 (x.toNat : Int)) := (hb0.cell (p := ⟨b, o, none⟩) hbB).trans (by simpa [bv] using hcell 0 (.int .u8 (x.toNat : Int)) (by simp [bv]))
    have hx8 := x.toNat_lt
    obtain ⟨res, hres⟩ : ∃ res, res = decR (x :: l) := ⟨_, rfl⟩
    have hres2 : res = if sideP (x.toNat : Int) = 0 then (5, 0, [], [], []) else if (readR (entP (x.toNat : Int)).2.data.toList l).1 = 0 then (0, x.toNat, (readR (entP (x.toNat : Int)).2.data.toList l).2) else ((readR (entP (x.toNat : Int)).2.data.toList l).1, 0, [], [], []) := hres
    rw [← hres]
    obtain ⟨m, hm⟩ : ∃ m, m = x.toNat := ⟨_, rfl⟩
    rw [← hm] at hc0 hx8 hres2
    have hsh := shape_any (m : Int) w0 (he.keep hb0) (by omega) (by omega)
    have H0 := Lib.hid hw0
    have HB0 := Lib.hid hb0
    have HP0 := Lib.hid hp0
    have HBT := Lib.hid hbt
    by_cases hs : sideP (m : Int) = 0
    · rw [if_pos hs] at hres2
      have t : (sideP (m : Int) != 0) = false := by simp [hs]
      rw [t] at hsh
      have HS := Lib.hid hsh
      have HX := Lib.hid hres2
      clear hsh hs t he hrd hres2 hres hm hw0 hb0 hp0 hbt hbs hn hlen hcell
      go_enter Tryd.func22, Tryd.ntmps22
      go_upto_region 1 with (fail)
      rw [← H0.out]
      go_wp2_with fail
      refine HS.out.mono ?_
      rintro e w1 ⟨rfl, hb1⟩
      have hp1 := (hb1.block w.heap.size (lt_of_block HP0.out)).trans HP0.out
      have f0 : ∀ i, w1.frozen? ⟨w.heap.size, i, none⟩ = false := fun i => frozen_of_row w1 _ i _ _ hp1
      have g0 := cell_of_row w1 w.heap.size 0 _ _ _ hp1
      have g1 := cell_of_row w1 w.heap.size 1 _ _ _ hp1
      have g2 := cell_of_row w1 w.heap.size 2 _ _ _ hp1
      have g3 := cell_of_row w1 w.heap.size 3 _ _ _ hp1
      simp at g0 g1 g2 g3
      have hb01 := HB0.out.trans (hb1.mono HB0.out.size)
      clear hp1 hc0
      go_wp2
      exact bodyPost_ret (v := .tuple #[.agg #[.int .i64 0, .slice none 0 0, .slice none 0 0, .slice none 0 0], .int .i64 5]) (by simp [results, Tryd.results22, go_sem, g0, g1, g2, g3]) rfl (by rw [HX.out]; exact DecPost.err ((((hb01.setCell (by simp) _).setCell (by simp) _).setCell (by simp) _).setCell (by simp) _))
    · rw [if_neg hs] at hres2
      have t : (sideP (m : Int) != 0) = true := by simp [hs]
      rw [t] at hsh
      obtain ⟨sh, hsh1⟩ : ∃ sh, sh = (entP (m : Int)).2 := ⟨_, rfl⟩
      rw [← hsh1] at hsh hres2
      obtain ⟨r, hr⟩ : ∃ r, r = readR sh.data.toList l := ⟨_, rfl⟩
      rw [← hr] at hres2
      have HS := Lib.hid hsh
      have HX := Lib.hid hres2
      have HR := Lib.hid hr
      have HLN : Hid (l.length ≤ 1000000) := by simp only [Hid]; omega
      clear hsh hs t he hrd hres2 hres hm hw0 hb0 hp0 hbt hbs hn hlen hcell hsh1 hr
      go_enter Tryd.func22, Tryd.ntmps22
      go_upto_region 1 with (fail)
      rw [← H0.out]
      go_wp2_with fail
      refine HS.out.mono ?_
      rintro e w1 ⟨rfl, hb1⟩
      have hb01 := HB0.out.trans (hb1.mono HB0.out.size)
      have hrd := read_any sh (.slice A' n c') l w1 (bs_up (HBT.out.below hb01 (Nat.le_refl _)) hb01.size) HLN.out
      rw [← HR.out] at hrd
      have HRD := Lib.hid hrd
      have HP1 := Lib.hid ((hb1.block w.heap.size (lt_of_block HP0.out)).trans HP0.out)
      have hz1 : w.heap.size < w1.heap.size := lt_of_block HP1.out
      clear hrd hc0 hb1
      go_wp2_with fail
      refine HRD.out.mono ?_
      rintro e w2 ⟨vN, vS, vL, vs, rfl, hb2, oN, oS, oL, ls, bN⟩
      obtain ⟨aN, kN, rfl, _⟩ := own_rd oN
      obtain ⟨aS, kS, rfl, _⟩ := own_rd oS
      obtain ⟨aL, kL, rfl, _⟩ := own_rd oL
      have hb02 := hb01.trans (hb2.mono hb01.size)
      obtain ⟨w3, hw3⟩ : ∃ w3, w3 = w2.alloc (.cells #[.slice aN r.2.1.length kN, .slice aS r.2.2.1.length kS, .slice aL r.2.2.2.length kL] 46) := ⟨_, rfl⟩
      have hb23 : Below w2.heap.size w2 w3 := by rw [hw3]; exact (Below.refl _ _).alloc (Nat.le_refl _) _
      have hq3 : w3.heap[w2.heap.size]? = some (.cells #[.slice aN r.2.1.length kN, .slice aS r.2.2.1.length kS, .slice aL r.2.2.2.length kL] 46 (0, 0)) := by rw [hw3]; exact heap_alloc_new w2 _
      have hb03 := hb02.trans (hb23.mono hb02.size)
      have hp3 := ((hb2.trans (hb23.mono hb2.size)).block w.heap.size hz1).trans HP1.out
      have f0 : ∀ i, w3.frozen? ⟨w.heap.size, i, none⟩ = false := fun i => frozen_of_row w3 _ i _ _ hp3
      have g0 := cell_of_row w3 w.heap.size 0 _ _ _ hp3
      have g1 := cell_of_row w3 w.heap.size 1 _ _ _ hp3
      have g2 := cell_of_row w3 w.heap.size 2 _ _ _ hp3
      have g3 := cell_of_row w3 w.heap.size 3 _ _ _ hp3
      have d0 := cell_of_row w3 w2.heap.size 0 _ _ _ hq3
      have d1 := cell_of_row w3 w2.heap.size 1 _ _ _ hq3
      have d2 := cell_of_row w3 w2.heap.size 2 _ _ _ hq3
      simp at g0 g1 g2 g3 d0 d1 d2
      have HO := Lib.hid (show w3.ownsRow w1.heap.size 66 1 (.slice aN r.2.1.length kN) r.2.1.length (uv .u64 r.2.1) ∧ w3.ownsRow w1.heap.size 9 1 (.slice aS r.2.2.1.length kS) r.2.2.1.length (sv r.2.2.1) ∧ w3.ownsRow w1.heap.size 62 1 (.slice aL r.2.2.2.length kL) r.2.2.2.length vs ∧ Lown w3 w1.heap.size vs r.2.2.2 from ⟨own_after oN hb23, own_after oS hb23, own_after oL hb23, Lown.kept hb23 ls⟩)
      have HBN := Lib.hid bN
      have H3 := Lib.hid hw3
      clear hb23 hq3 hp3 hb2 oN oS oL ls bN hb02 hw3 hb01
      by_cases hr0 : r.1 = 0
      · have HX2 := Lib.hid (HX.out.trans (if_pos hr0))
        have t0 : (((r.1 : Nat) : Int) != 0) = false := by simp [hr0]
        clear hr0 HX
        go_upto_region 8 with (fail)
        rw [← H3.out]
        go_wp2
        have far := fun {e n : Nat} {v : Value} {xs : List Value} (h : w3.ownsRow w1.heap.size e 1 v n xs) (u0 u1 u2 u3 : Value) => own_mono (own_far (own_far (own_far (own_far h (b := w.heap.size) (i := 0) (u := u0) hz1) (b := w.heap.size) (i := 1) (u := u1) hz1) (b := w.heap.size) (i := 2) (u := u2) hz1) (b := w.heap.size) (i := 3) (u := u3) hz1) (Nat.le_of_lt hz1)
        exact bodyPost_ret (v := .tuple #[.agg #[.int .i64 (m : Int), .slice aN r.2.1.length kN, .slice aS r.2.2.1.length kS, .slice aL r.2.2.2.length kL], .int .i64 0]) (by simp [results, Tryd.results22, go_sem, g0, g1, g2, g3]) rfl (by
          rw [HX2.out]
          exact ⟨_, _, _, vs, rfl, ((((hb03.setCell (by simp) _).setCell (by simp) _).setCell (by simp) _).setCell (by simp) _), far HO.out.1 _ _ _ _, far HO.out.2.1 _ _ _ _, far HO.out.2.2.1 _ _ _ _, Lown.mono (Nat.le_of_lt hz1) (Lown.far hz1 (Lown.far hz1 (Lown.far hz1 (Lown.far hz1 HO.out.2.2.2)))), HBN.out⟩)
      · have HX2 := Lib.hid (HX.out.trans (if_neg hr0))
        have t0 : (((r.1 : Nat) : Int) != 0) = true := by simp; omega
        obtain ⟨er, her⟩ : ∃ er, er = r.1 := ⟨_, rfl⟩
        rw [← her] at HX2
        rw [← her] at t0
        rw [← her]
        clear hr0 HX her
        go_upto_region 8 with (fail)
        rw [← H3.out]
        go_wp2
        exact bodyPost_ret (v := .tuple #[.agg #[.int .i64 0, .slice none 0 0, .slice none 0 0, .slice none 0 0], .int .i64 (er : Int)]) (by simp [results, Tryd.results22, go_sem, g0, g1, g2, g3]) rfl (by rw [HX2.out]; exact DecPost.err ((((hb03.setCell (by simp) _).setCell (by simp) _).setCell (by simp) _).setCell (by simp) _))
end Go.Proofs.YtkhhbmbjmfdgdaaDoor
