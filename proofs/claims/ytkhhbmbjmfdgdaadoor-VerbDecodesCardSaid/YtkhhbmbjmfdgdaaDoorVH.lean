/- Verb: VerbDecodes' walk. -/
import Derived.Test.YtkhhbmbjmfdgdaaDoorVC
import Derived.Test.YtkhhbmbjmfdgdaaDoorVG
namespace Go.Proofs.YtkhhbmbjmfdgdaaDoor
open Go.RowKit
set_option maxRecDepth 20000

set_option maxHeartbeats 4000000 in
theorem vdecodes_walk (A : Option Addr) (c : Nat) (l : List UInt8) (w : World) (he : Ents w) (hv : Bs w w.heap.size (.slice A l.length c) l) :
    Calls Tryd.prog 5 #[.slice A l.length c] w fun e w' => e = .returned (.bool true) ∧ Below w.heap.size w w' := by
  by_cases h12 : 1200 < l.length
  · clear he hv
    go_enter Tryd.func5, Tryd.ntmps5
    go_wp2
    go_ret
    exact ⟨rfl, Below.refl _ _⟩
  have hdc := decode_any _ l w he hv (by omega)
  have hbd := decR_bounds l
  have hrd := fun W (h : Bs W W.heap.size (.slice A l.length c) l) => rdecode_any _ l W h (by omega)
  obtain ⟨⟨er, k, N, S, L⟩, hr⟩ : ∃ r, r = decR l := ⟨_, rfl⟩
  rw [← hr] at hdc hbd hrd
  have HDC := Lib.hid hdc
  have HRD := Lib.hid hrd
  have HV := Lib.hid hv
  have HE := Lib.hid he
  have HSZ := Lib.hid hbd
  have hl12 : l.length ≤ 1200 := by omega
  clear hdc hv he hr hrd hbd h12
  go_enter Tryd.func5, Tryd.ntmps5
  go_wp2_with fail
  refine HDC.out.mono ?_
  intro e w1 hp
  obtain ⟨aN, aS, aL, cN, cS, cL, vs, rfl, hb1, hf⟩ := dec_flds hp
  clear hp
  obtain ⟨w2, hw2⟩ : ∃ w2, w2 = w1.alloc (.cells #[.int .i64 (k : Int), .slice aN N.length cN, .slice aS S.length cS, .slice aL L.length cL] 48) := ⟨_, rfl⟩
  have hb12 : Below w1.heap.size w1 w2 := by rw [hw2]; exact (Below.refl _ _).alloc (Nat.le_refl _) _
  have hb02 := hb1.trans (hb12.mono hb1.size)
  have HP2 := Lib.hid (show w2.heap[w1.heap.size]? = some (.cells #[.int .i64 (k : Int), .slice aN N.length cN, .slice aS S.length cS, .slice aL L.length cL] 48 (0, 0)) by rw [hw2]; exact heap_alloc_new w1 _)
  have HFA2 := Lib.hid (hf.below hb12)
  have HRC := Lib.hid (HRD.out w2 (bs_up (HV.out.below hb02 (Nat.le_refl _)) hb02.size))
  have H2 := Lib.hid hw2
  clear hf hw2 hb12 hb1 HRD HV HDC
  go_upto_region 4 with (fail)
  rw [← H2.out]
  go_wp2_with fail
  refine HRC.out.mono ?_
  intro e w3 hp
  obtain ⟨bN, bS, bL, dN, dS, dL, us, rfl, hb3, hg⟩ := rdec_flds hp
  clear hp
  have hb03 := hb02.trans (hb3.mono hb02.size)
  have HFA3 := Lib.hid (HFA2.out.below hb3)
  have HP3 := Lib.hid ((hb3.block w1.heap.size (lt_of_block HP2.out)).trans HP2.out)
  have HG := Lib.hid hg
  clear hg
  obtain ⟨w5, hw5⟩ : ∃ w5, w5 = w3.alloc (.cells #[.int .i64 (k : Int), .slice bN N.length dN, .slice bS S.length dS, .slice bL L.length dL] 40) := ⟨_, rfl⟩
  have hb35 : Below w3.heap.size w3 w5 := by rw [hw5]; exact (Below.refl _ _).alloc (Nat.le_refl _) _
  have hb05 : Below w.heap.size w w5 := hb03.trans (hb35.mono hb03.size)
  have hp5 : w5.heap[w3.heap.size]? = some (.cells #[.int .i64 (k : Int), .slice bN N.length dN, .slice bS S.length dS, .slice bL L.length dL] 40 (0, 0)) := by rw [hw5]; exact heap_alloc_new w3 _
  have hpf : w5.heap[w1.heap.size]? = some (.cells #[.int .i64 (k : Int), .slice aN N.length cN, .slice aS S.length cS, .slice aL L.length cL] 48 (0, 0)) := (hb35.block _ (lt_of_block HP3.out)).trans HP3.out
  have HFA : Hid (∀ W, Below w5.heap.size w5 W → Flds W aN aS aL cN cS cL vs N S L) := fun W hW => (HFA3.out.below hb35).below hW
  have HFB : Hid (∀ W, Below w5.heap.size w5 W → Flds W bN bS bL dN dS dL us N S L) := fun W hW => (HG.out.below hb35).below hW
  have HEN2 : Hid (∀ W, Below w5.heap.size w5 W → Ents W) := fun W hW => HE.out.keep (hb05.trans (hW.mono hb05.size))
  have HK : Hid (∀ W, Below w5.heap.size w5 W → W.cell? ⟨w1.heap.size, 0, none⟩ = some (.int .i64 (k : Int)) ∧ W.cell? ⟨w1.heap.size, 1, none⟩ = some (.slice aN N.length cN) ∧ W.cell? ⟨w1.heap.size, 2, none⟩ = some (.slice aS S.length cS) ∧ W.cell? ⟨w1.heap.size, 3, none⟩ = some (.slice aL L.length cL) ∧
      W.cell? ⟨w3.heap.size, 0, none⟩ = some (.int .i64 (k : Int)) ∧ W.cell? ⟨w3.heap.size, 1, none⟩ = some (.slice bN N.length dN) ∧ W.cell? ⟨w3.heap.size, 2, none⟩ = some (.slice bS S.length dS) ∧ W.cell? ⟨w3.heap.size, 3, none⟩ = some (.slice bL L.length dL)) := fun W hW => by
    have e1 := (hW.block w1.heap.size (lt_of_block hpf)).trans hpf
    have e2 := (hW.block w3.heap.size (lt_of_block hp5)).trans hp5
    exact ⟨cell_of_row W _ 0 _ _ _ e1, cell_of_row W _ 1 _ _ _ e1, cell_of_row W _ 2 _ _ _ e1, cell_of_row W _ 3 _ _ _ e1, cell_of_row W _ 0 _ _ _ e2, cell_of_row W _ 1 _ _ _ e2, cell_of_row W _ 2 _ _ _ e2, cell_of_row W _ 3 _ _ _ e2⟩
  have HD : Hid (Below w5.heap.size w5 w5.drew) := (Below.refl _ _).drew
  have H5 := Lib.hid hw5
  have q1 : ((er : Int) == er) = true := beq_self_eq_true _
  clear hw5 hp5 hpf hb35 hb3 hb03 HP2 HP3 HFA2 HFA3 HG HRC HE hb02
  go_upto_region 5 with (fail)
  rw [← H5.out]
  go_region_held3 (fun W => W.cell? ⟨w1.heap.size, 0, none⟩ = some (.int .i64 (k : Int)) ∧ W.cell? ⟨w1.heap.size, 1, none⟩ = some (.slice aN N.length cN) ∧ W.cell? ⟨w1.heap.size, 2, none⟩ = some (.slice aS S.length cS) ∧ W.cell? ⟨w1.heap.size, 3, none⟩ = some (.slice aL L.length cL) ∧
      W.cell? ⟨w3.heap.size, 0, none⟩ = some (.int .i64 (k : Int)) ∧ W.cell? ⟨w3.heap.size, 1, none⟩ = some (.slice bN N.length dN) ∧ W.cell? ⟨w3.heap.size, 2, none⟩ = some (.slice bS S.length dS) ∧ W.cell? ⟨w3.heap.size, 3, none⟩ = some (.slice bL L.length dL))
    (first | exact HK.out _ hc8 | exact HK.out _ hc7 | exact HK.out _ hc6 | exact HK.out _ HD.out | go_keep)
    (first
      | (go_at_call 25; refine (mback_any _ _ _ _ _ _ _ _ _ _ w5.drew).mono ?_; rintro e w6 ⟨rfl, hb6⟩; have hc6 := HD.out.trans hb6)
      | (go_at_call 24; refine (msame_any _ aN aS aL bN bS bL cN cS cL dN dS dL vs us N S L w6 (HFA.out w6 hc6) (HFB.out w6 hc6) HSZ.out.1 HSZ.out.2.1 HSZ.out.2.2.1 HSZ.out.2.2.2).mono ?_; rintro e w7 ⟨rfl, hb7⟩; have hc7 := hc6.trans (hb7.mono hc6.size))
      | (go_at_call 17; refine (vawake w7 (HEN2.out w7 hc7)).mono ?_; rintro e w8 ⟨rfl, hb8⟩; have hc8 := hc7.trans (hb8.mono hc7.size))
      | fail)
  go_wp2
  go_ret
  exact ⟨rfl, hb05.trans (hc8.mono hb05.size)⟩
end Go.Proofs.YtkhhbmbjmfdgdaaDoor
