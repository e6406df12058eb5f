/- Verb: VerbMakes' walk, whatever the message. -/
import Derived.Test.YtkhhbmbjmfdgdaaDoorVL
namespace Go.Proofs.YtkhhbmbjmfdgdaaDoor
open Go.RowKit
set_option maxRecDepth 20000

set_option maxHeartbeats 2000000 in
theorem vmakes_walk (k : Int) (N : List Nat) (S : List ByteArray) (L : List (List Nat)) (vs : List Value) (aN aS aL : Option Addr) (cN cS cL : Nat) (at' : Nat) (w : World) (he : Ents w) (_ : -9223372036854775808 ≤ k) (_ : k ≤ 9223372036854775807)
    (hf : Flds w aN aS aL cN cS cL vs N S L) (hN : N.length ≤ 9223372036854775807) (hS : S.length ≤ 9223372036854775807) (hL : L.length ≤ 9223372036854775807) (hu : ∀ u ∈ L, ∀ n ∈ u, n < 4294967296) (hat : at' ≤ 255) :
    Calls Tryd.prog 9 #[.agg #[.int .i64 k, .slice aN N.length cN, .slice aS S.length cS, .slice aL L.length cL], .int .u8 (at' : Int)] w fun e w' => e = .returned (.bool true) ∧ Below w.heap.size w w' := by
  rcases hsb : smallB N S L with _ | _
  · obtain ⟨w0, hw0⟩ : ∃ w0, w0 = w.alloc (.cells #[.int .i64 k, .slice aN N.length cN, .slice aS S.length cS, .slice aL L.length cL] 40) := ⟨_, rfl⟩
    have hb0 : Below w.heap.size w w0 := by rw [hw0]; exact (Below.refl w.heap.size w).alloc (Nat.le_refl _) _
    have m0 : w0.heap[w.heap.size]? = some (.cells #[.int .i64 k, .slice aN N.length cN, .slice aS S.length cS, .slice aL L.length cL] 40 (0, 0)) := by rw [hw0]; exact heap_alloc_new w _
    have e1 := cell_of_row w0 w.heap.size 1 _ _ _ m0
    have e2 := cell_of_row w0 w.heap.size 2 _ _ _ m0
    have e3 := cell_of_row w0 w.heap.size 3 _ _ _ m0
    simp at e1 e2 e3
    have hsm := small_any aN aS aL cN cS cL vs N S L w0 (hf.below hb0) hN hS hL
    rw [hsb] at hsm
    have HSM := Lib.hid hsm
    have H0 := Lib.hid hw0
    clear hsm hsb hw0 m0 he hf hu
    go_enter Tryd.func9, Tryd.ntmps9
    go_upto_region 1 with (fail)
    rw [← H0.out]
    go_wp2_with fail
    refine HSM.out.mono ?_
    rintro e w1 ⟨rfl, hb1⟩
    go_wp2
    go_ret
    exact ⟨rfl, hb0.trans (hb1.mono hb0.size)⟩
  · have h2 := hsb
    simp only [smallB, decide_eq_true_eq] at h2
    exact vmakes_small k N S L vs aN aS aL cN cS cL at' w he hat hf (by omega) (by omega) (by omega) (fun u hu => h2.2.1 u hu) hu hsb
end Go.Proofs.YtkhhbmbjmfdgdaaDoor
