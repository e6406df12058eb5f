/- Verb: what the chapter's examples say; equal messages. -/
import Derived.Test.YtkhhbmbjmfdgdaaDoorV6
namespace Go.Proofs.YtkhhbmbjmfdgdaaDoor
open Go.RowKit
set_option maxRecDepth 20000

theorem flds_own {w : World} {base : Nat} {aN aS aL : Option Addr} {cN cS cL : Nat} {vs : List Value} {N : List Nat} {S : List ByteArray} {L : List (List Nat)}
    (oN : w.ownsRow base 66 1 (.slice aN N.length cN) N.length (uv .u64 N)) (oS : w.ownsRow base 9 1 (.slice aS S.length cS) S.length (sv S)) (oL : w.ownsRow base 62 1 (.slice aL L.length cL) L.length vs)
    (ls : Lss w w.heap.size vs L) (bN : ∀ n ∈ N, n < 18446744073709551616) : Flds w aN aS aL cN cS cL vs N S L := by
  obtain ⟨_, _, e1, rN, lN, _⟩ := own_rd oN
  obtain ⟨_, _, e2, rS, lS, _⟩ := own_rd oS
  obtain ⟨_, _, e3, rL, lL, _⟩ := own_rd oL
  injection e1 with e1 _ e1'
  injection e2 with e2 _ e2'
  injection e3 with e3 _ e3'
  subst e1 e1' e2 e2' e3 e3'
  exact ⟨rN, rS, rL, ls, lN, lS, lL, bN⟩

theorem enc_awake : encR 17 [2] [] [] = ([17, 2], 0) := by decide +kernel
theorem dec_awake : decR [1, 2, 7, 8] = (0, 1, [], [⟨#[7, 8]⟩], []) := by decide +kernel

set_option maxHeartbeats 4000000 in
theorem vawake (w : World) (he : Ents w) : Calls Tryd.prog 17 #[] w fun e w' => e = .returned (.bool true) ∧ Below w.heap.size w w' := by
  obtain ⟨w0, hw0⟩ : ∃ w0, w0 = w.alloc (.cells #[.int .u64 2] 66) := ⟨_, rfl⟩
  have hb0 : Below w.heap.size w w0 := by rw [hw0]; exact (Below.refl w.heap.size w).alloc (Nat.le_refl _) _
  have hp0 : w0.heap[w.heap.size]? = some (.cells #[.int .u64 2] 66 (0, 0)) := by rw [hw0]; exact heap_alloc_new w _
  have hr0 : Rd w0 w0.heap.size (some ⟨w.heap.size, 0, none⟩) (uv .u64 [2]) := rd_block' hp0 rfl (lt_of_block hp0)
  have hmk := make_any 17 (some ⟨w.heap.size, 0, none⟩) 1 [2] w0.heap.size w0 hr0 (Nat.le_refl _) (by simp)
  have HMK := Lib.hid hmk
  have H0 := Lib.hid hw0
  have HE := Lib.hid he
  have HB0 := Lib.hid hb0
  clear hmk hw0 he hb0 hp0 hr0
  go_enter Tryd.func17, Tryd.ntmps17
  go_wp2_with fail
  rw [← H0.out]
  refine HMK.out.mono ?_
  rintro e w1 ⟨A1, c1, rfl, o1, hb1⟩
  have hb01 := HB0.out.trans (hb1.mono HB0.out.size)
  have hen := encode_any 17 [2] [] [] [] A1 none none c1 0 0 w1 (HE.out.keep hb01) (by omega) (by omega) (flds_own o1 (World.ownsRow_nil _ _ _ _) (World.ownsRow_nil _ _ _ _) trivial (by simp))
  rw [enc_awake] at hen
  have HEN := Lib.hid hen
  clear hen o1 hb1
  go_wp2_with fail
  refine HEN.out.mono ?_
  rintro e w2 ⟨A2, c2, rfl, o2, _, hb2⟩
  have hb02 := hb01.trans (hb2.mono hb01.size)
  obtain ⟨w3, hw3⟩ : ∃ w3, w3 = w2.alloc (.cells #[.int .u8 1, .int .u8 2, .int .u8 7, .int .u8 8] 5) := ⟨_, rfl⟩
  have hb23 : Below w2.heap.size w2 w3 := by rw [hw3]; exact (Below.refl _ _).alloc (Nat.le_refl _) _
  have hp3 : w3.heap[w2.heap.size]? = some (.cells #[.int .u8 1, .int .u8 2, .int .u8 7, .int .u8 8] 5 (0, 0)) := by rw [hw3]; exact heap_alloc_new w2 _
  have hb03 := hb02.trans (hb23.mono hb02.size)
  have hrd3 : Rd w3 w3.heap.size (some ⟨w2.heap.size, 0, none⟩) (bv [1, 2, 7, 8]) := rd_block' hp3 rfl (lt_of_block hp3)
  have hdc := decode_any (.slice (some ⟨w2.heap.size, 0, none⟩) 4 4) [1, 2, 7, 8] w3 (HE.out.keep hb03) ⟨_, _, rfl, by simp, hrd3⟩ (by simp)
  rw [dec_awake] at hdc
  have HDC := Lib.hid hdc
  have H3 := Lib.hid hw3
  have HO2 := Lib.hid (own_after o2 hb23)
  clear hdc hw3 hp3 hrd3 hb01 hb2 hb23 o2
  go_wp2_with fail
  rw [← H3.out]
  refine HDC.out.mono ?_
  rintro e w4 ⟨vN, vS, vL, vs, rfl, hb4, oN, oS, oL, _, _⟩
  obtain ⟨aN, kN, rfl, _⟩ := own_rd oN
  obtain ⟨aL, kL, rfl, _⟩ := own_rd oL
  obtain ⟨g, kS, rfl, hg0, hg1⟩ : ∃ g kS, vS = .slice (some ⟨g, 0, none⟩) 1 kS ∧ w4.cell? ⟨g, 0, none⟩ = some (.string ⟨#[7, 8]⟩) ∧ g < w4.heap.size := by
    rcases oS.2 with ⟨_, h⟩ | ⟨g, cap, cur, hv, _⟩
    · simp at h
    · refine ⟨g, cap, hv, ?_, ?_⟩
      · have := oS.cells (g := g) (by rw [hv]; rfl) 0 (.string ⟨#[7, 8]⟩) (by simp [sv])
        rwa [add_plain] at this
      · exact (oS.lt g (by rw [hv]; rfl)).2
  have hb04 := hb03.trans (hb4.mono hb03.size)
  obtain ⟨w5, hw5⟩ : ∃ w5, w5 = w4.alloc (.cells #[.int .i64 1, .slice aN 0 kN, .slice (some ⟨g, 0, none⟩) 1 kS, .slice aL 0 kL] 48) := ⟨_, rfl⟩
  have hb45 : Below w4.heap.size w4 w5 := by rw [hw5]; exact (Below.refl _ _).alloc (Nat.le_refl _) _
  have hp5 : w5.heap[w4.heap.size]? = some (.cells #[.int .i64 1, .slice aN 0 kN, .slice (some ⟨g, 0, none⟩) 1 kS, .slice aL 0 kL] 48 (0, 0)) := by rw [hw5]; exact heap_alloc_new w4 _
  have hb05 := hb04.trans (hb45.mono hb04.size)
  have o25 := own_after (own_after HO2.out hb4) hb45
  obtain ⟨_, _, e2, hr2, _, _⟩ := own_rd o25
  injection e2 with e2 _ e3
  subst e2 e3
  have k1 : (convert 42 9 (.slice A2 2 c2)).run Tryd.prog w5 = .ok (.string ⟨#[17, 2]⟩) w5 := conv_rd (l := [17, 2]) hr2 c2
  have hb56 : Below w5.heap.size w5 (w5.alloc (.cells #[.int .u8 17, .int .u8 2] 5)) := (Below.refl _ _).alloc (Nat.le_refl _) _
  have k2 : (convert 42 9 (.slice (some ⟨w5.heap.size, 0, none⟩) 2 2)).run Tryd.prog (w5.alloc (.cells #[.int .u8 17, .int .u8 2] 5)) = .ok (.string ⟨#[17, 2]⟩) (w5.alloc (.cells #[.int .u8 17, .int .u8 2] 5)) :=
    conv_rd (l := [17, 2]) (rd_block' (heap_alloc_new w5 _) rfl (Nat.lt_succ_self _)) 2
  have hp6 := (hb56.block w4.heap.size (lt_of_block hp5)).trans hp5
  have d0 := cell_of_row _ w4.heap.size 0 _ _ _ hp6
  have d2 := cell_of_row _ w4.heap.size 2 _ _ _ hp6
  have dg := ((hb45.trans (hb56.mono hb45.size)).cell (p := ⟨g, 0, none⟩) hg1).trans hg0
  simp at d0 d2
  have H5 := Lib.hid hw5
  clear hw5 hp5 hp6 o25 hr2 hb45 hb4 oN oS oL hg0 hb02 hb03 hb04 hb56
  go_upto_region 3 with (fail)
  rw [← H5.out]
  go_wp2
  go_ret
  exact ⟨rfl, hb05.alloc hb05.size _⟩
end Go.Proofs.YtkhhbmbjmfdgdaaDoor
