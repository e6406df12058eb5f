/- Verb: With, And. -/
import Derived.Test.YtkhhbmbjmfdgdaaDoorVJ
namespace Go.Proofs.YtkhhbmbjmfdgdaaDoor
open Go.RowKit
set_option maxRecDepth 20000

theorem sv_app (S T : List ByteArray) : sv (S ++ T) = sv S ++ sv T := by simp [sv]

set_option maxHeartbeats 4000000 in
theorem with_any (k : Int) (N : List Nat) (S : List ByteArray) (L : List (List Nat)) (vs : List Value) (aN aS aL : Option Addr) (cN cS cL : Nat) (w : World) (hf : Flds w aN aS aL cN cS cL vs N S L)
    (hN : N.length ≤ 1000) (hS : S.length ≤ 1000) (hL : L.length ≤ 1000) (hu : ∀ u ∈ L, u.length ≤ 1000) (aX : Option Addr) (cX p : Nat) (T : List ByteArray) (hT : T.length ≤ 1000) (hp : p = (S ++ T).length) (rX : Rd w w.heap.size aX (sv T)) :
    Calls Tryd.prog 28 #[.agg #[.int .i64 k, .slice aN N.length cN, .slice aS S.length cS, .slice aL L.length cL], .slice aX T.length cX] w (FrPost w k N (S ++ T) L) := by
  obtain ⟨w0, hw0⟩ : ∃ w0, w0 = (w.alloc (.cells #[.int .i64 k, .slice aN N.length cN, .slice aS S.length cS, .slice aL L.length cL] 48)).alloc (.cells #[.int .i64 0, .slice none 0 0, .slice none 0 0, .slice none 0 0] 48) := ⟨_, rfl⟩
  have hb0 : Below w.heap.size w w0 := by rw [hw0]; exact ((Below.refl w.heap.size w).alloc (Nat.le_refl _) _).alloc (by simp) _
  have m0 : w0.heap[w.heap.size]? = some (.cells #[.int .i64 k, .slice aN N.length cN, .slice aS S.length cS, .slice aL L.length cL] 48 (0, 0)) := by
    rw [hw0]; exact (Below.heap_alloc _ _ _ (by simp)).trans (heap_alloc_new w _)
  have r0 : w0.heap[w.heap.size + 1]? = some (.cells #[.int .i64 0, .slice none 0 0, .slice none 0 0, .slice none 0 0] 48 (0, 0)) := by
    have := heap_alloc_new (w.alloc (.cells #[.int .i64 k, .slice aN N.length cN, .slice aS S.length cS, .slice aL L.length cL] 48)) (.cells #[.int .i64 0, .slice none 0 0, .slice none 0 0, .slice none 0 0] 48)
    rw [hw0]
    rwa [World.size_alloc] at this
  have e0 := cell_of_row w0 w.heap.size 0 _ _ _ m0
  have e1 := cell_of_row w0 w.heap.size 1 _ _ _ m0
  have e2 := cell_of_row w0 w.heap.size 2 _ _ _ m0
  have e3 := cell_of_row w0 w.heap.size 3 _ _ _ m0
  simp at e0 e1 e2 e3
  have hfr := fresh_msg k N S L vs aN aS aL cN cS cL w0 (hf.below hb0) hN hS hL hu
  have HFR := Lib.hid hfr
  have H0 := Lib.hid hw0
  have HM0 := Lib.hid m0
  have HR0 := Lib.hid r0
  have HX := Lib.hid rX
  have HP := Lib.hid hp
  clear rX hp
  clear hfr hw0 hf hu m0 r0
  go_enter Tryd.func28, Tryd.ntmps28
  go_upto_region 1 with (fail)
  rw [← H0.out]
  go_wp2_with fail
  refine HFR.out.mono ?_
  rintro e w1 ⟨bN, bS, bL, dN, dS, dL, us, rfl, hb1, hfo⟩
  have hb01 := hb0.trans (hb1.mono hb0.size)
  have m1 := (hb1.block _ (lt_of_block HM0.out)).trans HM0.out
  have r1 := (hb1.block _ (lt_of_block HR0.out)).trans HR0.out
  have s0 := heap_setCell_same w1 w.heap.size 0 _ 48 (.int .i64 k) m1
  have s1 := heap_setCell_same _ w.heap.size 1 _ 48 (.slice bN N.length dN) s0
  have s2 := heap_setCell_same _ w.heap.size 2 _ 48 (.slice bS S.length dS) s1
  have s3 := heap_setCell_same _ w.heap.size 3 _ 48 (.slice bL L.length dL) s2
  have kk := (((Kp.set m1 0 (.int .i64 k)).trans (Kp.set s0 1 (.slice bN N.length dN))).trans (Kp.set s1 2 (.slice bS S.length dS))).trans (Kp.set s2 3 (.slice bL L.length dL))
  obtain ⟨w2, hw2⟩ : ∃ w2, w2 = ((((w1.setCell ⟨w.heap.size, 0, none⟩ (.int .i64 k)).setCell ⟨w.heap.size, 1, none⟩ (.slice bN N.length dN)).setCell ⟨w.heap.size, 2, none⟩ (.slice bS S.length dS)).setCell ⟨w.heap.size, 3, none⟩ (.slice bL L.length dL)) := ⟨_, rfl⟩
  have hb2 : Below w.heap.size w w2 := by rw [hw2]; exact (((hb01.setCell (by simp) _).setCell (by simp) _).setCell (by simp) _).setCell (by simp) _
  have m2 : w2.heap[w.heap.size]? = some (.cells #[.int .i64 k, .slice bN N.length dN, .slice bS S.length dS, .slice bL L.length dL] 48 (0, 0)) := by rw [hw2]; exact s3
  have r2 : w2.heap[w.heap.size + 1]? = some (.cells #[.int .i64 0, .slice none 0 0, .slice none 0 0, .slice none 0 0] 48 (0, 0)) := by rw [hw2]; exact block_far (block_far (block_far (block_far r1 (by omega)) (by omega)) (by omega)) (by omega)
  have hfo2 : Fo w2 w0.heap.size bN bS bL dN dS dL us N S L := by rw [hw2]; exact hfo.kp kk (by decide) (by decide) (by decide) (by decide)
  have z1 : ∀ i, w1.frozen? ⟨w.heap.size, i, none⟩ = false := (fun i => frozen_of_row w1 _ i _ _ m1)
  have y0 := cell_of_row w1 w.heap.size 0 _ _ _ m1
  have y1 := cell_of_row w1 w.heap.size 1 _ _ _ m1
  have y2 := cell_of_row w1 w.heap.size 2 _ _ _ m1
  have y3 := cell_of_row w1 w.heap.size 3 _ _ _ m1
  simp at y0 y1 y2 y3
  have H2 := Lib.hid hw2
  have HM2 := Lib.hid m2
  have HR2 := Lib.hid r2
  have HB2 := Lib.hid hb2
  have HO2 := Lib.hid hfo2
  have hz0 : w.heap.size + 1 < w0.heap.size := lt_of_block HR0.out
  have hz2 : w0.heap.size ≤ w2.heap.size := by rw [hw2]; simpa using hb1.size
  clear e0 e1 e2 e3 hb0 hb1 hfo hb01 m1 r1 s0 s1 s2 s3 kk hw2 hb2 m2 r2 hfo2
  go_upto_region 2 with (fail)
  rw [← H2.out]
  clear y0 y1 y2 y3 z1
  have z2 : ∀ i, w2.frozen? ⟨w.heap.size, i, none⟩ = false := (fun i => frozen_of_row w2 _ i _ _ HM2.out)
  have d2 := cell_of_row w2 w.heap.size 2 _ _ _ HM2.out
  simp at d2
  obtain ⟨i0, hi, hy0, hy1, hy2⟩ := info_parts Tryd.info9
  have hm63 : (sv S).length + T.length ≤ maxLen := by unfold maxLen; rw [sv_len]; omega
  have hm47 : ((sv S).length + T.length) * 16 ≤ 140737488355328 := by rw [sv_len]; omega
  have HRS := Lib.hid (HX.out.below HB2.out (Nat.le_refl _))
  have hos : w2.ownsRow w0.heap.size 9 1 (.slice bS S.length dS) (sv S).length (sv S) := by rw [sv_len]; exact HO2.out.oS
  have HOS := Lib.hid hos
  have hpn : p = (sv S ++ sv T).length := by rw [HP.out]; simp [sv]
  have HPN := Lib.hid hpn
  clear hos hpn
  go_upto_region 3 with (at_builtin; refine wpList_append_rd rfl (.tmp 9) (.tmp 10) 35 9 16 (.string ⟨#[]⟩) i0 rfl Tryd.underlying35 hi hy0 hy1 hy2 rfl w0.heap.size w.heap.size (.slice bS S.length dS) (sv S) (sv T) aX cX T.length p rfl rfl (sv_len _).symm HPN.out HOS.out HRS.out (sv_one _) hm63 hm47 hz2 ?_; intro fS gS w3 o3 hg3; have k23 := Kp.grown hg3 (rowT_own HO2.out.oS); have m3 := k23 _ _ _ _ HM2.out (by decide); have z3 : ∀ i, w3.frozen? ⟨w.heap.size, i, none⟩ = false := (fun i => frozen_of_row w3 _ i _ _ m3); have c3 := cell_of_row w3 w.heap.size 2 _ _ _ m3; have HM3 := Lib.hid m3; have HK3 := Lib.hid k23; clear m3 k23; simp at c3)
  obtain ⟨w4, hw4⟩ : ∃ w4, w4 = w3.setCell ⟨w.heap.size, 2, none⟩ (.slice fS p gS) := ⟨_, rfl⟩
  have r3 := HK3.out _ _ _ _ HR2.out (by decide)
  have hb3 : Below w.heap.size w w3 := HB2.out.grown hg3 HB2.out.size (fun k hk => by have := (HO2.out.oS.lt k hk).1; omega)
  have hb4 : Below w.heap.size w w4 := by rw [hw4]; exact hb3.setCell (by simp) _
  have k34 : Kp [48] w3 w4 := by rw [hw4]; exact Kp.set HM3.out 2 _
  have m4 : w4.heap[w.heap.size]? = some (.cells #[.int .i64 k, .slice bN N.length dN, .slice fS p gS, .slice bL L.length dL] 48 (0, 0)) := by rw [hw4]; exact heap_setCell_same w3 w.heap.size 2 _ 48 _ HM3.out
  have r4 : w4.heap[w.heap.size + 1]? = some (.cells #[.int .i64 0, .slice none 0 0, .slice none 0 0, .slice none 0 0] 48 (0, 0)) := by rw [hw4]; exact block_far r3 (by omega)
  have k24 := HK3.out.trans k34
  have o4 : w4.ownsRow w0.heap.size 9 1 (.slice fS p gS) p (sv (S ++ T)) := by rw [sv_app]; exact k34.own o3 (by decide)
  rw [HP.out] at o4
  have hfo4 : Fo w4 w0.heap.size bN fS bL dN gS dL us N (S ++ T) L := ⟨k24.own HO2.out.oN (by decide), o4, k24.own HO2.out.oL (by decide), k24.lq (by decide) HO2.out.ls, HO2.out.bN⟩
  clear d2 z2 z3 c3 r3 hb3 k34 k24 o3 o4 hg3
  have z4 : ∀ i, w4.frozen? ⟨w.heap.size + 1, i, none⟩ = false := (fun i => frozen_of_row w4 _ i _ _ r4)
  have x0 := cell_of_row w4 w.heap.size 0 _ _ _ m4
  have x1 := cell_of_row w4 w.heap.size 1 _ _ _ m4
  have x2 := cell_of_row w4 w.heap.size 2 _ _ _ m4
  have x3 := cell_of_row w4 w.heap.size 3 _ _ _ m4
  have y0 := cell_of_row w4 (w.heap.size + 1) 0 _ _ _ r4
  have y1 := cell_of_row w4 (w.heap.size + 1) 1 _ _ _ r4
  have y2 := cell_of_row w4 (w.heap.size + 1) 2 _ _ _ r4
  have y3 := cell_of_row w4 (w.heap.size + 1) 3 _ _ _ r4
  simp at x0 x1 x2 x3 y0 y1 y2 y3
  have H4 := Lib.hid hw4
  have HFO := Lib.hid hfo4
  have HR4 := Lib.hid r4
  have HB4 := Lib.hid hb4
  clear hw4 hfo4 r4 hb4 m4
  go_upto_region 3 with (fail)
  rw [← H4.out]
  go_wp2
  have s0 := heap_setCell_same w4 (w.heap.size + 1) 0 _ 48 (.int .i64 k) HR4.out
  have s1 := heap_setCell_same _ (w.heap.size + 1) 1 _ 48 (.slice bN N.length dN) s0
  have s2 := heap_setCell_same _ (w.heap.size + 1) 2 _ 48 (.slice fS p gS) s1
  have kk := (((Kp.set HR4.out 0 (.int .i64 k)).trans (Kp.set s0 1 (.slice bN N.length dN))).trans (Kp.set s1 2 (.slice fS p gS))).trans (Kp.set s2 3 (.slice bL L.length dL))
  exact bodyPost_ret (v := .agg #[.int .i64 k, .slice bN N.length dN, (.slice fS p gS), (.slice bL L.length dL)]) (by simp [results, Tryd.results28, go_sem, y0, y1, y2, y3]) rfl
    ⟨_, _, _, _, _, _, _, by rw [HP.out], (((HB4.out.setCell (by simp) _).setCell (by simp) _).setCell (by simp) _).setCell (by simp) _, (HFO.out.kp kk (by decide) (by decide) (by decide) (by decide)).mono (B' := w.heap.size) (by omega)⟩

set_option maxHeartbeats 4000000 in
theorem and_any (k : Int) (N : List Nat) (S : List ByteArray) (L : List (List Nat)) (vs : List Value) (aN aS aL : Option Addr) (cN cS cL : Nat) (w : World) (hf : Flds w aN aS aL cN cS cL vs N S L)
    (hN : N.length ≤ 1000) (hS : S.length ≤ 1000) (hL : L.length ≤ 1000) (hu : ∀ u ∈ L, u.length ≤ 1000) (aX : Option Addr) (cX p : Nat) (T : List (List Nat)) (ts : List Value) (hT : T.length ≤ 1000) (hTu : ∀ u ∈ T, u.length ≤ 1000) (hp : p = L.length + T.length) (rX : Rd w w.heap.size aX ts) (lX : Lss w w.heap.size ts T) :
    Calls Tryd.prog 29 #[.agg #[.int .i64 k, .slice aN N.length cN, .slice aS S.length cS, .slice aL L.length cL], .slice aX T.length cX] w (FrPost w k N S (L ++ T)) := by
  obtain ⟨w0, hw0⟩ : ∃ w0, w0 = (w.alloc (.cells #[.int .i64 k, .slice aN N.length cN, .slice aS S.length cS, .slice aL L.length cL] 48)).alloc (.cells #[.int .i64 0, .slice none 0 0, .slice none 0 0, .slice none 0 0] 48) := ⟨_, rfl⟩
  have hb0 : Below w.heap.size w w0 := by rw [hw0]; exact ((Below.refl w.heap.size w).alloc (Nat.le_refl _) _).alloc (by simp) _
  have m0 : w0.heap[w.heap.size]? = some (.cells #[.int .i64 k, .slice aN N.length cN, .slice aS S.length cS, .slice aL L.length cL] 48 (0, 0)) := by
    rw [hw0]; exact (Below.heap_alloc _ _ _ (by simp)).trans (heap_alloc_new w _)
  have r0 : w0.heap[w.heap.size + 1]? = some (.cells #[.int .i64 0, .slice none 0 0, .slice none 0 0, .slice none 0 0] 48 (0, 0)) := by
    have := heap_alloc_new (w.alloc (.cells #[.int .i64 k, .slice aN N.length cN, .slice aS S.length cS, .slice aL L.length cL] 48)) (.cells #[.int .i64 0, .slice none 0 0, .slice none 0 0, .slice none 0 0] 48)
    rw [hw0]
    rwa [World.size_alloc] at this
  have e0 := cell_of_row w0 w.heap.size 0 _ _ _ m0
  have e1 := cell_of_row w0 w.heap.size 1 _ _ _ m0
  have e2 := cell_of_row w0 w.heap.size 2 _ _ _ m0
  have e3 := cell_of_row w0 w.heap.size 3 _ _ _ m0
  simp at e0 e1 e2 e3
  have hfr := fresh_msg k N S L vs aN aS aL cN cS cL w0 (hf.below hb0) hN hS hL hu
  have HFR := Lib.hid hfr
  have H0 := Lib.hid hw0
  have HM0 := Lib.hid m0
  have HR0 := Lib.hid r0
  have HX := Lib.hid rX
  have HLX := Lib.hid lX
  have HP := Lib.hid hp
  have HTU := Lib.hid hTu
  clear rX lX hp hTu
  clear hfr hw0 hf hu m0 r0
  go_enter Tryd.func29, Tryd.ntmps29
  go_upto_region 1 with (fail)
  rw [← H0.out]
  go_wp2_with fail
  refine HFR.out.mono ?_
  rintro e w1 ⟨bN, bS, bL, dN, dS, dL, us, rfl, hb1, hfo⟩
  have hb01 := hb0.trans (hb1.mono hb0.size)
  have m1 := (hb1.block _ (lt_of_block HM0.out)).trans HM0.out
  have r1 := (hb1.block _ (lt_of_block HR0.out)).trans HR0.out
  have s0 := heap_setCell_same w1 w.heap.size 0 _ 48 (.int .i64 k) m1
  have s1 := heap_setCell_same _ w.heap.size 1 _ 48 (.slice bN N.length dN) s0
  have s2 := heap_setCell_same _ w.heap.size 2 _ 48 (.slice bS S.length dS) s1
  have s3 := heap_setCell_same _ w.heap.size 3 _ 48 (.slice bL L.length dL) s2
  have kk := (((Kp.set m1 0 (.int .i64 k)).trans (Kp.set s0 1 (.slice bN N.length dN))).trans (Kp.set s1 2 (.slice bS S.length dS))).trans (Kp.set s2 3 (.slice bL L.length dL))
  obtain ⟨w2, hw2⟩ : ∃ w2, w2 = ((((w1.setCell ⟨w.heap.size, 0, none⟩ (.int .i64 k)).setCell ⟨w.heap.size, 1, none⟩ (.slice bN N.length dN)).setCell ⟨w.heap.size, 2, none⟩ (.slice bS S.length dS)).setCell ⟨w.heap.size, 3, none⟩ (.slice bL L.length dL)) := ⟨_, rfl⟩
  have hb2 : Below w.heap.size w w2 := by rw [hw2]; exact (((hb01.setCell (by simp) _).setCell (by simp) _).setCell (by simp) _).setCell (by simp) _
  have m2 : w2.heap[w.heap.size]? = some (.cells #[.int .i64 k, .slice bN N.length dN, .slice bS S.length dS, .slice bL L.length dL] 48 (0, 0)) := by rw [hw2]; exact s3
  have r2 : w2.heap[w.heap.size + 1]? = some (.cells #[.int .i64 0, .slice none 0 0, .slice none 0 0, .slice none 0 0] 48 (0, 0)) := by rw [hw2]; exact block_far (block_far (block_far (block_far r1 (by omega)) (by omega)) (by omega)) (by omega)
  have hfo2 : Fo w2 w0.heap.size bN bS bL dN dS dL us N S L := by rw [hw2]; exact hfo.kp kk (by decide) (by decide) (by decide) (by decide)
  have z1 : ∀ i, w1.frozen? ⟨w.heap.size, i, none⟩ = false := (fun i => frozen_of_row w1 _ i _ _ m1)
  have y0 := cell_of_row w1 w.heap.size 0 _ _ _ m1
  have y1 := cell_of_row w1 w.heap.size 1 _ _ _ m1
  have y2 := cell_of_row w1 w.heap.size 2 _ _ _ m1
  have y3 := cell_of_row w1 w.heap.size 3 _ _ _ m1
  simp at y0 y1 y2 y3
  have H2 := Lib.hid hw2
  have HM2 := Lib.hid m2
  have HR2 := Lib.hid r2
  have HB2 := Lib.hid hb2
  have HO2 := Lib.hid hfo2
  have hz0 : w.heap.size + 1 < w0.heap.size := lt_of_block HR0.out
  have hz2 : w0.heap.size ≤ w2.heap.size := by rw [hw2]; simpa using hb1.size
  clear e0 e1 e2 e3 hb0 hb1 hfo hb01 m1 r1 s0 s1 s2 s3 kk hw2 hb2 m2 r2 hfo2
  go_upto_region 2 with (fail)
  rw [← H2.out]
  clear y0 y1 y2 y3 z1
  have z2 : ∀ i, w2.frozen? ⟨w.heap.size, i, none⟩ = false := (fun i => frozen_of_row w2 _ i _ _ HM2.out)
  have d3 := cell_of_row w2 w.heap.size 3 _ _ _ HM2.out
  simp at d3
  have hcp := copies_any w0.heap.size bL aX dL cX L.length us ts L T w2 rfl HO2.out.oL HO2.out.ls ((HX.out.below HB2.out (Nat.le_refl _)).mono (by omega)) ((HLX.out.below HB2.out (Nat.le_refl _)).mono (by omega)) hz2 (by omega) hT HTU.out
  rw [← HP.out] at hcp
  have HCP := Lib.hid hcp
  clear hcp
  go_wp2_with fail
  refine HCP.out.mono ?_
  rintro e w3 ⟨fL, gL, ws, rfl, o3, l3, hb23, k23⟩
  have m3 := k23 _ _ _ _ HM2.out (by decide)
  have r3 := k23 _ _ _ _ HR2.out (by decide)
  have z3 : ∀ i, w3.frozen? ⟨w.heap.size, i, none⟩ = false := (fun i => frozen_of_row w3 _ i _ _ m3)
  have c3 := cell_of_row w3 w.heap.size 3 _ _ _ m3
  simp at c3
  obtain ⟨w4, hw4⟩ : ∃ w4, w4 = w3.setCell ⟨w.heap.size, 3, none⟩ (.slice fL p gL) := ⟨_, rfl⟩
  have hb3 : Below w.heap.size w w3 := HB2.out.trans (hb23.mono (by omega))
  have hb4 : Below w.heap.size w w4 := by rw [hw4]; exact hb3.setCell (by simp) _
  have k34 : Kp [48] w3 w4 := by rw [hw4]; exact Kp.set m3 3 _
  have m4 : w4.heap[w.heap.size]? = some (.cells #[.int .i64 k, .slice bN N.length dN, .slice bS S.length dS, .slice fL p gL] 48 (0, 0)) := by rw [hw4]; exact heap_setCell_same w3 w.heap.size 3 _ 48 _ m3
  have r4 : w4.heap[w.heap.size + 1]? = some (.cells #[.int .i64 0, .slice none 0 0, .slice none 0 0, .slice none 0 0] 48 (0, 0)) := by rw [hw4]; exact block_far r3 (by omega)
  have k24 := k23.trans k34
  have hpl : p = (L ++ T).length := by rw [HP.out, List.length_append]
  have o4 := k34.own o3 (by decide)
  have l4 := k34.lq (by decide) l3
  rw [hpl] at o4
  have HPL := Lib.hid hpl
  clear k23 k34 HP hpl
  have HP := HPL
  have hfo4 : Fo w4 w0.heap.size bN bS fL dN dS gL ws N S (L ++ T) := ⟨k24.own HO2.out.oN (by decide), k24.own HO2.out.oS (by decide), o4, l4, HO2.out.bN⟩
  clear d3 z2 r3 hb3 k24 o3 o4 l3 l4 hb23 m3
  have z4 : ∀ i, w4.frozen? ⟨w.heap.size + 1, i, none⟩ = false := (fun i => frozen_of_row w4 _ i _ _ r4)
  have x0 := cell_of_row w4 w.heap.size 0 _ _ _ m4
  have x1 := cell_of_row w4 w.heap.size 1 _ _ _ m4
  have x2 := cell_of_row w4 w.heap.size 2 _ _ _ m4
  have x3 := cell_of_row w4 w.heap.size 3 _ _ _ m4
  have y0 := cell_of_row w4 (w.heap.size + 1) 0 _ _ _ r4
  have y1 := cell_of_row w4 (w.heap.size + 1) 1 _ _ _ r4
  have y2 := cell_of_row w4 (w.heap.size + 1) 2 _ _ _ r4
  have y3 := cell_of_row w4 (w.heap.size + 1) 3 _ _ _ r4
  simp at x0 x1 x2 x3 y0 y1 y2 y3
  have H4 := Lib.hid hw4
  have HFO := Lib.hid hfo4
  have HR4 := Lib.hid r4
  have HB4 := Lib.hid hb4
  clear hw4 hfo4 r4 hb4 m4
  go_upto_region 3 with (fail)
  rw [← H4.out]
  go_wp2
  have s0 := heap_setCell_same w4 (w.heap.size + 1) 0 _ 48 (.int .i64 k) HR4.out
  have s1 := heap_setCell_same _ (w.heap.size + 1) 1 _ 48 (.slice bN N.length dN) s0
  have s2 := heap_setCell_same _ (w.heap.size + 1) 2 _ 48 (.slice bS S.length dS) s1
  have kk := (((Kp.set HR4.out 0 (.int .i64 k)).trans (Kp.set s0 1 (.slice bN N.length dN))).trans (Kp.set s1 2 (.slice bS S.length dS))).trans (Kp.set s2 3 (.slice fL p gL))
  exact bodyPost_ret (v := .agg #[.int .i64 k, .slice bN N.length dN, (.slice bS S.length dS), (.slice fL p gL)]) (by simp [results, Tryd.results29, go_sem, y0, y1, y2, y3]) rfl
    ⟨_, _, _, _, _, _, _, by rw [HP.out], (((HB4.out.setCell (by simp) _).setCell (by simp) _).setCell (by simp) _).setCell (by simp) _, (HFO.out.kp kk (by decide) (by decide) (by decide) (by decide)).mono (B' := w.heap.size) (by omega)⟩
end Go.Proofs.YtkhhbmbjmfdgdaaDoor
