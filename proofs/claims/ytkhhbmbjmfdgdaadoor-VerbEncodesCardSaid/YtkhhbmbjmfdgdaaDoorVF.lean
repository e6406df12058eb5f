/- Verb: VerbEncodes' walk. -/
import Derived.Test.YtkhhbmbjmfdgdaaDoorVE
namespace Go.Proofs.YtkhhbmbjmfdgdaaDoor
open Go.RowKit
set_option maxRecDepth 20000

set_option maxHeartbeats 4000000 in
theorem vencodes_walk (k : Int) (N : List Nat) (S : List ByteArray) (L : List (List Nat)) (vs : List Value) (aN aS aL : Option Addr) (cN cS cL : Nat) (w : World) (he : Ents w) (hk1 : -9223372036854775808 ≤ k) (hk2 : k ≤ 9223372036854775807)
    (hf : Flds w aN aS aL cN cS cL vs N S L) (hN : N.length ≤ 9223372036854775807) (hS : S.length ≤ 9223372036854775807) (hL : L.length ≤ 9223372036854775807) (_ : ∀ u ∈ L, ∀ n ∈ u, n < 4294967296) :
    Calls Tryd.prog 4 #[.agg #[.int .i64 k, .slice aN N.length cN, .slice aS S.length cS, .slice aL L.length cL]] w fun e w' => e = .returned (.bool true) ∧ Below w.heap.size w w' := by
  obtain ⟨w0, hw0⟩ : ∃ w0, w0 = w.alloc (.cells #[.int .i64 k, .slice aN N.length cN, .slice aS S.length cS, .slice aL L.length cL] 40) := ⟨_, rfl⟩
  have hb0 : Below w.heap.size w w0 := by rw [hw0]; exact (Below.refl w.heap.size w).alloc (Nat.le_refl _) _
  have hp0 : w0.heap[w.heap.size]? = some (.cells #[.int .i64 k, .slice aN N.length cN, .slice aS S.length cS, .slice aL L.length cL] 40 (0, 0)) := by rw [hw0]; exact heap_alloc_new w _
  have e0 := cell_of_row w0 w.heap.size 0 _ _ _ hp0
  have e1 := cell_of_row w0 w.heap.size 1 _ _ _ hp0
  have e2 := cell_of_row w0 w.heap.size 2 _ _ _ hp0
  have e3 := cell_of_row w0 w.heap.size 3 _ _ _ hp0
  simp at e0 e1 e2 e3
  have hsm := small_any aN aS aL cN cS cL vs N S L w0 (hf.below hb0) hN hS hL
  have H0 := Lib.hid hw0
  have HP0 := Lib.hid hp0
  have HE := Lib.hid he
  have HF := Lib.hid hf
  rcases hsb : smallB N S L with _ | _
  · rw [hsb] at hsm
    have HSM := Lib.hid hsm
    clear hsm hsb hw0 hp0 he hf e0
    go_enter Tryd.func4, Tryd.ntmps4
    go_upto_region 1 with (fail)
    rw [← H0.out]
    go_wp2_with fail
    refine HSM.out.mono ?_
    rintro e w1 ⟨rfl, hb1⟩
    go_wp2
    go_ret
    exact ⟨rfl, hb0.trans (hb1.mono hb0.size)⟩
  · rw [hsb] at hsm
    have HSM := Lib.hid hsm
    obtain ⟨r, hr⟩ : ∃ r, r = encR k N S L := ⟨_, rfl⟩
    have HR := Lib.hid hr
    clear hsm hsb hw0 hp0 he hf e0 hr
    go_enter Tryd.func4, Tryd.ntmps4
    go_upto_region 1 with (fail)
    rw [← H0.out]
    go_wp2_with fail
    refine HSM.out.mono ?_
    rintro e w1 ⟨rfl, hb1⟩
    have hb01 := hb0.trans (hb1.mono hb0.size)
    have HP1 := Lib.hid ((hb1.block w.heap.size (lt_of_block HP0.out)).trans HP0.out)
    have d0 := cell_of_row w1 w.heap.size 0 _ _ _ HP1.out
    have d1 := cell_of_row w1 w.heap.size 1 _ _ _ HP1.out
    have d2 := cell_of_row w1 w.heap.size 2 _ _ _ HP1.out
    have d3 := cell_of_row w1 w.heap.size 3 _ _ _ HP1.out
    simp at d0 d1 d2 d3
    clear e1 e2 e3 hb1
    go_wp2_with fail
    refine (msg_any _ _ _ _ _ _ _ _ _ _ _).mono ?_
    rintro e w2 ⟨rfl, hb2⟩
    have hb02 := hb01.trans (hb2.mono hb01.size)
    have hen := encode_any k N S L vs aN aS aL cN cS cL w2 (HE.out.keep hb02) hk1 hk2 (HF.out.below hb02)
    rw [← HR.out] at hen
    have HEN := Lib.hid hen
    have HP2 := Lib.hid ((hb2.block w.heap.size (lt_of_block HP1.out)).trans HP1.out)
    clear hen d0 d1 d2 d3 hb2
    go_wp2_with fail
    refine HEN.out.mono ?_
    rintro e w3 ⟨A3, c3, rfl, o3, hl3, hb3⟩
    have hb03 := hb02.trans (hb3.mono hb02.size)
    have HP3 := Lib.hid ((hb3.block w.heap.size (lt_of_block HP2.out)).trans HP2.out)
    have d0 := cell_of_row w3 w.heap.size 0 _ _ _ HP3.out
    have d1 := cell_of_row w3 w.heap.size 1 _ _ _ HP3.out
    have d2 := cell_of_row w3 w.heap.size 2 _ _ _ HP3.out
    have d3 := cell_of_row w3 w.heap.size 3 _ _ _ HP3.out
    simp at d0 d1 d2 d3
    have hre := rencode_any k N S L vs aN aS aL cN cS cL w3 (HF.out.below hb03)
    rw [← HR.out] at hre
    have HRE := Lib.hid hre
    have HO3 := Lib.hid o3
    clear hb3 hre o3
    go_wp2_with fail
    refine HRE.out.mono ?_
    rintro e w4 ⟨A4, c4, rfl, o4, _, hb4⟩
    have hb04 := hb03.trans (hb4.mono hb03.size)
    obtain ⟨s0, hs0⟩ : ∃ s0 : ByteArray, s0 = ⟨r.1.toArray⟩ := ⟨_, rfl⟩
    have k1 := conv_bs (Bs.of_own (own_after HO3.out hb4))
    have k2 := conv_bs (Bs.of_own o4)
    rw [← hs0] at k1 k2
    have q1 : (s0.toList == s0.toList) = true := beq_self_eq_true _
    have HAW := Lib.hid (fun W h => vawake W h)
    clear o4 hs0 hb4 d0 d1 d2 d3
    go_wp2_with fail
    refine (HAW.out _ (HE.out.keep hb04)).mono ?_
    rintro e w5 ⟨rfl, hb5⟩
    go_wp2
    go_ret
    exact ⟨rfl, hb04.trans (hb5.mono hb04.size)⟩
end Go.Proofs.YtkhhbmbjmfdgdaaDoor
