/- Verb: a fresh message; With, And. -/
import Derived.Test.YtkhhbmbjmfdgdaaDoorVI
namespace Go.Proofs.YtkhhbmbjmfdgdaaDoor
open Go.RowKit
set_option maxRecDepth 20000

/-- A message's fields in memory of the call's own. -/
structure Fo (w : World) (B : Nat) (aN aS aL : Option Addr) (cN cS cL : Nat) (vs : List Value) (N : List Nat) (S : List ByteArray) (L : List (List Nat)) : Prop where
  oN : w.ownsRow B 66 1 (.slice aN N.length cN) N.length (uv .u64 N)
  oS : w.ownsRow B 9 1 (.slice aS S.length cS) S.length (sv S)
  oL : w.ownsRow B 62 1 (.slice aL L.length cL) L.length vs
  ls : Lq w B vs L
  bN : ∀ n ∈ N, n < 18446744073709551616

section
variable {w w' : World} {B : Nat} {aN aS aL : Option Addr} {cN cS cL : Nat} {vs : List Value} {N : List Nat} {S : List ByteArray} {L : List (List Nat)}
theorem Fo.flds (h : Fo w B aN aS aL cN cS cL vs N S L) : Flds w aN aS aL cN cS cL vs N S L := flds_own h.oN h.oS h.oL (lss_q h.ls) h.bN
theorem Fo.kp {ts : List TypeId} (h : Fo w B aN aS aL cN cS cL vs N S L) (k : Kp ts w w') (h1 : 66 ∉ ts) (h2 : 9 ∉ ts) (h3 : 62 ∉ ts) (h4 : 67 ∉ ts) : Fo w' B aN aS aL cN cS cL vs N S L := ⟨k.own h.oN h1, k.own h.oS h2, k.own h.oL h3, k.lq h4 h.ls, h.bN⟩
theorem Fo.after (h : Fo w B aN aS aL cN cS cL vs N S L) (hb : Below w.heap.size w w') : Fo w' B aN aS aL cN cS cL vs N S L := ⟨own_after h.oN hb, own_after h.oS hb, own_after h.oL hb, h.ls.below hb, h.bN⟩
theorem Fo.mono {B' : Nat} (h : Fo w B aN aS aL cN cS cL vs N S L) (hB : B' ≤ B) : Fo w B' aN aS aL cN cS cL vs N S L := ⟨own_mono h.oN hB, own_mono h.oS hB, own_mono h.oL hB, h.ls.mono hB, h.bN⟩
end

/-- A message handed back, its fields in new memory. -/
def FrPost (w : World) (k : Int) (N : List Nat) (S : List ByteArray) (L : List (List Nat)) (e : Ending) (w' : World) : Prop :=
  ∃ aN aS aL cN cS cL vs, e = .returned (.agg #[.int .i64 k, .slice aN N.length cN, .slice aS S.length cS, .slice aL L.length cL]) ∧ Below w.heap.size w w' ∧ Fo w' w.heap.size aN aS aL cN cS cL vs N S L

theorem sv_len (S : List ByteArray) : (sv S).length = S.length := by simp [sv]
theorem sv_one (S : List ByteArray) : ∀ u ∈ sv S, u.oneCell' = true := by
  intro u hu
  simp only [sv, List.mem_map] at hu
  obtain ⟨n, _, rfl⟩ := hu
  rfl
theorem Kp.of_old {w w' : World} (hb : Below w.heap.size w w') : Kp [] w w' := fun k _ _ _ h _ => (hb.block k (lt_of_block h)).trans h
theorem block_far {w : World} {G b i : Nat} {o : Obj} {u : Value} (h : w.heap[G]? = some o) (hne : b ≠ G) : (w.setCell ⟨b, i, none⟩ u).heap[G]? = some o :=
  ((grown_setCell w b i u).block G (lt_of_block h) (fun e => by injection e with e; exact hne e.symm)).trans h

set_option maxHeartbeats 4000000 in
theorem fresh_msg (k : Int) (N : List Nat) (S : List ByteArray) (L : List (List Nat)) (vs : List Value) (aN aS aL : Option Addr) (cN cS cL : Nat) (w : World) (hf : Flds w aN aS aL cN cS cL vs N S L)
    (hN : N.length ≤ 1000) (hS : S.length ≤ 1000) (hL : L.length ≤ 1000) (hu : ∀ u ∈ L, u.length ≤ 1000) :
    Calls Tryd.prog 38 #[.agg #[.int .i64 k, .slice aN N.length cN, .slice aS S.length cS, .slice aL L.length cL]] w (FrPost w k N S L) := by
  obtain ⟨w0, hw0⟩ : ∃ w0, w0 = (w.alloc (.cells #[.int .i64 k, .slice aN N.length cN, .slice aS S.length cS, .slice aL L.length cL] 48)).alloc (.cells #[.int .i64 0, .slice none 0 0, .slice none 0 0, .slice none 0 0] 48) := ⟨_, rfl⟩
  have hb0 : Below w.heap.size w w0 := by rw [hw0]; exact ((Below.refl w.heap.size w).alloc (Nat.le_refl _) _).alloc (by simp) _
  have m0 : w0.heap[w.heap.size]? = some (.cells #[.int .i64 k, .slice aN N.length cN, .slice aS S.length cS, .slice aL L.length cL] 48 (0, 0)) := by
    rw [hw0]; exact (Below.heap_alloc _ _ _ (by simp)).trans (heap_alloc_new w _)
  have r0 : w0.heap[w.heap.size + 1]? = some (.cells #[.int .i64 0, .slice none 0 0, .slice none 0 0, .slice none 0 0] 48 (0, 0)) := by
    have := heap_alloc_new (w.alloc (.cells #[.int .i64 k, .slice aN N.length cN, .slice aS S.length cS, .slice aL L.length cL] 48)) (.cells #[.int .i64 0, .slice none 0 0, .slice none 0 0, .slice none 0 0] 48)
    rw [hw0]
    rwa [World.size_alloc] at this
  have e0 := cell_of_row w0 w.heap.size 0 _ _ _ m0
  have e1 := cell_of_row w0 w.heap.size 1 _ _ _ m0
  simp at e0 e1
  have hmk := make_any k aN cN N w0.heap.size w0 ((hf.below hb0).rN) (Nat.le_refl _) (by omega)
  have HMK := Lib.hid hmk
  have H0 := Lib.hid hw0
  have HF := Lib.hid hf
  have HU := Lib.hid hu
  have HM0 := Lib.hid m0
  have HR0 := Lib.hid r0
  clear hmk hw0 hf hu m0 r0
  go_enter Tryd.func38, Tryd.ntmps38
  go_upto_region 1 with (fail)
  rw [← H0.out]
  go_wp2_with fail
  refine HMK.out.mono ?_
  rintro e w1 ⟨bN, dN, rfl, o1, hb1⟩
  have hb01 := hb0.trans (hb1.mono hb0.size)
  have m1 := (hb1.block _ (lt_of_block HM0.out)).trans HM0.out
  have r1 := (hb1.block _ (lt_of_block HR0.out)).trans HR0.out
  have hF1 : w.heap.size + 1 < w1.heap.size := lt_of_block r1
  obtain ⟨w2, hw2⟩ : ∃ w2, w2 = w1.alloc (.cells #[.int .i64 k, .slice bN N.length dN, .slice none 0 0, .slice none 0 0] 48) := ⟨_, rfl⟩
  have hb12 : Below w1.heap.size w1 w2 := by rw [hw2]; exact (Below.refl _ _).alloc (Nat.le_refl _) _
  have hb02 := hb01.trans (hb12.mono hb01.size)
  have f2 : w2.heap[w1.heap.size]? = some (.cells #[.int .i64 k, .slice bN N.length dN, .slice none 0 0, .slice none 0 0] 48 (0, 0)) := by rw [hw2]; exact heap_alloc_new w1 _
  have m2 := (hb12.block _ (lt_of_block m1)).trans m1
  have r2 := (hb12.block _ (lt_of_block r1)).trans r1
  have HO2 := Lib.hid (own_after o1 hb12)
  have c2 := cell_of_row w2 w1.heap.size 2 _ _ _ f2
  have d2 := cell_of_row w2 w.heap.size 2 _ _ _ m2
  simp at c2 d2
  obtain ⟨i0, hi, hz0, hz1, hz2⟩ := info_parts Tryd.info9
  have hm63 : (0 : Nat) + S.length ≤ maxLen := by unfold maxLen; omega
  have hm47 : ((0 : Nat) + S.length) * 16 ≤ 140737488355328 := by omega
  have HRS := Lib.hid (HF.out.below hb02).rS
  have H2 := Lib.hid hw2
  have HM2 := Lib.hid m2
  have HR2 := Lib.hid r2
  have HF2 := Lib.hid f2
  have HB2 := Lib.hid hb02
  clear e0 e1 m1 r1 hb12 hb01 hb1 o1 f2 m2 r2 hw2 hb02 hb0
  go_upto_region 2 with (fail)
  rw [← H2.out]
  go_upto_region 3 with (at_builtin; refine wpList_append_rd rfl (.tmp 12) (.tmp 15) 35 9 16 (.string ⟨#[]⟩) i0 rfl Tryd.underlying35 hi hz0 hz1 hz2 rfl w2.heap.size w2.heap.size (.slice none 0 0) [] (sv S) aS cS S.length S.length rfl rfl (sv_len _).symm (by simp [sv_len]) (World.ownsRow_nil _ _ _ _) HRS.out (sv_one _) hm63 hm47 (Nat.le_refl _) ?_; intro bS dS w3 o3 hg3; have f3 := (hg3.block _ (lt_of_block HF2.out) (by simp [Value.ownBlock])).trans HF2.out; have z3 : ∀ i, w3.frozen? ⟨w1.heap.size, i, none⟩ = false := (fun i => frozen_of_row w3 _ i _ _ f3); have c3 := cell_of_row w3 w1.heap.size 2 _ _ _ f3; have HF3 := Lib.hid f3; clear f3; simp at c3)
  obtain ⟨w4, hw4⟩ : ∃ w4, w4 = w3.setCell ⟨w1.heap.size, 2, none⟩ (.slice bS S.length dS) := ⟨_, rfl⟩
  have k23 : Kp [] w2 w3 := Kp.none hg3
  have m3 := k23 _ _ _ _ HM2.out (by simp)
  have r3 := k23 _ _ _ _ HR2.out (by simp)
  have hb3 : Below w.heap.size w w3 := HB2.out.grown hg3 HB2.out.size (fun k hk => by simp [Value.ownBlock] at hk)
  have hb4 : Below w.heap.size w w4 := by rw [hw4]; exact hb3.setCell (by simp; omega) _
  have k34 : Kp [48] w3 w4 := by rw [hw4]; exact Kp.set HF3.out 2 _
  have f4 : w4.heap[w1.heap.size]? = some (.cells #[.int .i64 k, .slice bN N.length dN, .slice bS S.length dS, .slice none 0 0] 48 (0, 0)) := by rw [hw4]; exact heap_setCell_same w3 w1.heap.size 2 _ 48 _ HF3.out
  have m4 : w4.heap[w.heap.size]? = some (.cells #[.int .i64 k, .slice aN N.length cN, .slice aS S.length cS, .slice aL L.length cL] 48 (0, 0)) := by rw [hw4]; exact block_far m3 (by omega)
  have r4 : w4.heap[w.heap.size + 1]? = some (.cells #[.int .i64 0, .slice none 0 0, .slice none 0 0, .slice none 0 0] 48 (0, 0)) := by rw [hw4]; exact block_far r3 (by omega)
  have o4N := (k23.trans k34).own HO2.out (by decide)
  have o4S := k34.own o3 (by decide)
  have c4 := cell_of_row w4 w1.heap.size 3 _ _ _ f4
  have d4 := cell_of_row w4 w.heap.size 3 _ _ _ m4
  simp at c4 d4
  have hfl := HF.out.below hb4
  have hcp := copies_any w4.heap.size none aL 0 cL 0 [] vs [] L w4 rfl (World.ownsRow_nil _ _ _ _) trivial hfl.rL hfl.ls (Nat.le_refl _) (by simp) (by omega) HU.out
  simp only [List.nil_append, Nat.zero_add] at hcp
  have HCP := Lib.hid hcp
  have H4 := Lib.hid hw4
  have HB4 := Lib.hid hb4
  have HM4 := Lib.hid m4
  have HR4 := Lib.hid r4
  have HF4 := Lib.hid f4
  have HO4 := Lib.hid (show w4.ownsRow w0.heap.size 66 1 (.slice bN N.length dN) N.length (uv .u64 N) ∧ w4.ownsRow w2.heap.size 9 1 (.slice bS S.length dS) S.length (sv S) from ⟨o4N, o4S⟩)
  rw [← H4.out]
  clear c2 d2 z3 c3 hw4 k23 m3 r3 hb3 hb4 k34 f4 m4 r4 o4N o4S hfl hcp o3 hg3
  go_wp2_with fail
  refine HCP.out.mono ?_
  rintro e w5 ⟨bL, dL, us, rfl, o5, l5, hb5, _⟩
  have f5 := (hb5.block _ (lt_of_block HF4.out)).trans HF4.out
  have r5 := (hb5.block _ (lt_of_block HR4.out)).trans HR4.out
  obtain ⟨w6, hw6⟩ : ∃ w6, w6 = w5.setCell ⟨w1.heap.size, 3, none⟩ (.slice bL L.length dL) := ⟨_, rfl⟩
  have k56 : Kp [48] w5 w6 := by rw [hw6]; exact Kp.set f5 3 _
  have hb6 : Below w.heap.size w w6 := by rw [hw6]; exact (HB4.out.trans (hb5.mono HB4.out.size)).setCell (by simp; omega) _
  have f6 : w6.heap[w1.heap.size]? = some (.cells #[.int .i64 k, .slice bN N.length dN, .slice bS S.length dS, .slice bL L.length dL] 48 (0, 0)) := by rw [hw6]; exact heap_setCell_same w5 w1.heap.size 3 _ 48 _ f5
  have r6 : w6.heap[w.heap.size + 1]? = some (.cells #[.int .i64 0, .slice none 0 0, .slice none 0 0, .slice none 0 0] 48 (0, 0)) := by rw [hw6]; exact block_far r5 (by omega)
  have hfo : Fo w6 w.heap.size bN bS bL dN dS dL us N S L := by
    have b1 := hb6.size
    have s2 := HB2.out.size
    have s4 := HB4.out.size
    exact ⟨own_mono (k56.own ((Kp.of_old hb5).own HO4.out.1 (by simp)) (by decide)) (by have := lt_of_block HM0.out; omega), own_mono (k56.own ((Kp.of_old hb5).own HO4.out.2 (by simp)) (by decide)) s2, own_mono (k56.own o5 (by decide)) s4, (k56.lq (by decide) l5).mono s4, (fun n hn => HF.out.bN n hn)⟩
  have z5 : ∀ i, w5.frozen? ⟨w1.heap.size, i, none⟩ = false := (fun i => frozen_of_row w5 _ i _ _ f5)
  have c5 := cell_of_row w5 w1.heap.size 3 _ _ _ f5
  have z6 : ∀ i, w6.frozen? ⟨w.heap.size + 1, i, none⟩ = false := (fun i => frozen_of_row w6 _ i _ _ r6)
  have x0 := cell_of_row w6 w1.heap.size 0 _ _ _ f6
  have x1 := cell_of_row w6 w1.heap.size 1 _ _ _ f6
  have x2 := cell_of_row w6 w1.heap.size 2 _ _ _ f6
  have x3 := cell_of_row w6 w1.heap.size 3 _ _ _ f6
  have y0 := cell_of_row w6 (w.heap.size + 1) 0 _ _ _ r6
  have y1 := cell_of_row w6 (w.heap.size + 1) 1 _ _ _ r6
  have y2 := cell_of_row w6 (w.heap.size + 1) 2 _ _ _ r6
  have y3 := cell_of_row w6 (w.heap.size + 1) 3 _ _ _ r6
  simp at c5 x0 x1 x2 x3 y0 y1 y2 y3
  have H6 := Lib.hid hw6
  have HFO := Lib.hid hfo
  have HR6 := Lib.hid r6
  have HB6 := Lib.hid hb6
  clear c4 d4 hw6 k56 f6 r6 f5 r5 hb5 o5 l5 hfo hb6
  go_upto_region 4 with (fail)
  rw [← H6.out]
  go_wp2
  have s0 := heap_setCell_same w6 (w.heap.size + 1) 0 _ 48 (.int .i64 k) HR6.out
  have s1 := heap_setCell_same _ (w.heap.size + 1) 1 _ 48 (.slice bN N.length dN) s0
  have s2 := heap_setCell_same _ (w.heap.size + 1) 2 _ 48 (.slice bS S.length dS) s1
  have kk := (((Kp.set HR6.out 0 (.int .i64 k)).trans (Kp.set s0 1 (.slice bN N.length dN))).trans (Kp.set s1 2 (.slice bS S.length dS))).trans (Kp.set s2 3 (.slice bL L.length dL))
  exact bodyPost_ret (v := .agg #[.int .i64 k, .slice bN N.length dN, .slice bS S.length dS, .slice bL L.length dL]) (by simp [results, Tryd.results38, go_sem, y0, y1, y2, y3]) rfl
    ⟨bN, bS, bL, dN, dS, dL, us, rfl, (((HB6.out.setCell (by simp) _).setCell (by simp) _).setCell (by simp) _).setCell (by simp) _, HFO.out.kp kk (by decide) (by decide) (by decide) (by decide)⟩
end Go.Proofs.YtkhhbmbjmfdgdaaDoor
